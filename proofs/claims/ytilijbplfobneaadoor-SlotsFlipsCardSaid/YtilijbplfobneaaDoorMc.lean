/- slots: how a page lies -/
import Derived.Test.YtilijbplfobneaaDoorMb
import Derived.Test.YtilijbplfobneaaDoorSm
import Derived.Test.YtilijbplfobneaaDoorFm
namespace Go.Proofs.YtilijbplfobneaaDoor
set_option linter.unusedVariables false
set_option linter.unusedSimpArgs false
open Go.ChangeShapes Go.WideShapes Go.ChangeAt Go.RowKit Go.Maps

/-- Where the bytes of the first slots begin. -/
def endS (S : List Sl) (i : Nat) : Nat := 512 - szT S i
/-- The page's bytes, as far as its first slots are laid; there is no sum yet. -/
def layB (kd id : Nat) (S : List Sl) : Nat → List UInt8
  | 0 => splice (splice (List.replicate 512 0) 0 [UInt8.ofNat kd, UInt8.ofNat S.length]) 2 (wd id)
  | i + 1 => match S.getD i none with
    | none => layB kd id S i
    | some L => splice (splice (splice (layB kd id S i) (endS S (i + 1)) L) (16 + 4 * i) (pr (endS S (i + 1)))) (18 + 4 * i) (pr (L.length + 1))
/-- .. and its sum. -/
def sealB (M : List UInt8) : List UInt8 := splice M 12 (wd (Cr.sum M))
def pgB (kd id : Nat) (S : List Sl) : List UInt8 := sealB (layB kd id S S.length)
theorem layB_none {kd id : Nat} {S : List Sl} {i : Nat} (h : S.getD i none = none) : layB kd id S (i + 1) = layB kd id S i := by
  show (match S.getD i none with | none => _ | some L => _) = _
  rw [h]
theorem layB_some {kd id : Nat} {S : List Sl} {i : Nat} {L : List UInt8} (h : S.getD i none = some L) : layB kd id S (i + 1) = splice (splice (splice (layB kd id S i) (endS S (i + 1)) L) (16 + 4 * i) (pr (endS S (i + 1)))) (18 + 4 * i) (pr (L.length + 1)) := by
  show (match S.getD i none with | none => _ | some L => _) = _
  rw [h]
theorem szT_len {S : List Sl} (hu : usS S ≤ 512) {i : Nat} (hi : i ≤ S.length) : szT S i + 16 + 4 * S.length ≤ 512 := by
  have := szT_mono S hi
  unfold usS at hu
  omega
theorem endS_some {S : List Sl} {i : Nat} {L : List UInt8} (hu : usS S ≤ 512) (hi : i < S.length) (h : S.getD i none = some L) : endS S (i + 1) + L.length = endS S i ∧ endS S i ≤ 512 ∧ 16 + 4 * S.length ≤ endS S (i + 1) := by
  have h1 := szT_len hu (show i + 1 ≤ S.length by omega)
  have h2 : szT S (i + 1) = szT S i + szO (S.getD i none) := rfl
  rw [h] at h2
  have h3 : szO (some L : Sl) = L.length := rfl
  rw [h3] at h2
  unfold endS
  omega
theorem endS_none {S : List Sl} {i : Nat} (h : S.getD i none = none) : endS S (i + 1) = endS S i := by
  have h2 : szT S (i + 1) = szT S i + szO (S.getD i none) := rfl
  rw [h] at h2
  unfold endS
  rw [h2]
  rfl
theorem pr_len (v : Nat) : (pr v).length = 2 := rfl
theorem wd_len4 (v : Nat) : (wd v).length = 4 := rfl
set_option maxRecDepth 100000 in
theorem lay0_len (kd id : Nat) (S : List Sl) : (layB kd id S 0).length = 512 := by
  show (splice (splice (List.replicate 512 0) 0 _) 2 (wd id)).length = 512
  have h1 : (splice (List.replicate 512 (0 : UInt8)) 0 [UInt8.ofNat kd, UInt8.ofNat S.length]).length = 512 := by
    rw [length_splice _ _ _ (by rw [List.length_replicate]; show 0 + 2 ≤ 512; omega), List.length_replicate]
  rw [length_splice _ _ _ (by rw [h1, wd_len4]; omega), h1]
theorem layB_len (kd id : Nat) {S : List Sl} (hu : usS S ≤ 512) (h60 : S.length ≤ 60) : ∀ i, i ≤ S.length → (layB kd id S i).length = 512
  | 0, _ => lay0_len kd id S
  | i + 1, hi => by
    have ih := layB_len kd id hu h60 i (by omega)
    cases h : S.getD i none with
    | none => rw [layB_none h]; exact ih
    | some L =>
      obtain ⟨h1, h2, h3⟩ := endS_some hu (show i < S.length by omega) h
      have a1 : (splice (layB kd id S i) (endS S (i + 1)) L).length = 512 := by rw [length_splice _ _ _ (by rw [ih]; omega), ih]
      have a2 : (splice (splice (layB kd id S i) (endS S (i + 1)) L) (16 + 4 * i) (pr (endS S (i + 1)))).length = 512 := by rw [length_splice _ _ _ (by rw [a1, pr_len]; omega), a1]
      rw [layB_some h, length_splice _ _ _ (by rw [a2, pr_len]; omega), a2]
theorem splice_out {α : Type} (X : List α) (off : Nat) (cs : List α) (h : off + cs.length ≤ X.length) (j : Nat) (hj : j < off ∨ off + cs.length ≤ j) : (splice X off cs)[j]? = X[j]? := by
  rw [splice_get _ _ _ h]
  by_cases h1 : j < off
  · rw [if_pos h1]
  · rw [if_neg h1, if_neg (by omega)]
/-- The sum's place is left free. -/
theorem layB_free (kd id : Nat) {S : List Sl} (hu : usS S ≤ 512) (h60 : S.length ≤ 60) (j : Nat) (h1 : 12 ≤ j) (h2 : j < 16) : ∀ i, i ≤ S.length → (layB kd id S i)[j]? = some 0
  | 0, _ => by
    show (splice (splice (List.replicate 512 0) 0 _) 2 (wd id))[j]? = some 0
    have hl : (splice (List.replicate 512 (0 : UInt8)) 0 [UInt8.ofNat kd, UInt8.ofNat S.length]).length = 512 := by
      rw [length_splice _ _ _ (by rw [List.length_replicate]; show 0 + 2 ≤ 512; omega), List.length_replicate]
    rw [splice_out _ _ _ (by rw [hl, wd_len4]; omega) j (by rw [wd_len4]; omega), splice_out _ _ _ (by rw [List.length_replicate]; show 0 + 2 ≤ 512; omega) j (Or.inr (by show 0 + 2 ≤ j; omega)), List.getElem?_replicate, if_pos (by omega)]
  | i + 1, hi => by
    have ih := layB_free kd id hu h60 j h1 h2 i (by omega)
    have il := layB_len kd id hu h60 i (by omega)
    cases h : S.getD i none with
    | none => rw [layB_none h]; exact ih
    | some L =>
      obtain ⟨b1, b2, b3⟩ := endS_some hu (show i < S.length by omega) h
      have a1 : (splice (layB kd id S i) (endS S (i + 1)) L).length = 512 := by rw [length_splice _ _ _ (by rw [il]; omega), il]
      have a2 : (splice (splice (layB kd id S i) (endS S (i + 1)) L) (16 + 4 * i) (pr (endS S (i + 1)))).length = 512 := by rw [length_splice _ _ _ (by rw [a1, pr_len]; omega), a1]
      rw [layB_some h, splice_out _ _ _ (by rw [a2, pr_len]; omega) j (Or.inl (by omega)), splice_out _ _ _ (by rw [a1, pr_len]; omega) j (Or.inl (by omega)), splice_out _ _ _ (by rw [il]; omega) j (Or.inl (by omega))]
      exact ih
theorem sealB_len {M : List UInt8} (h : M.length = 512) : (sealB M).length = 512 := by
  unfold sealB
  rw [length_splice _ _ _ (by rw [h, wd_len4]; omega), h]
theorem wd_inj {a b : Nat} (ha : a < 4294967296) (hb : b < 4294967296) (h : wd a = wd b) : a = b := by
  have h1 := wv_wd a ha []
  have h2 := wv_wd b hb []
  rw [h, h2] at h1
  exact h1.symm
/-- Of two rows with sums one bit apart there are none. -/
theorem seal_flip {M M' : List UInt8} (h1 : M.length = 512) (h2 : M'.length = 512) (f1 : ∀ j, 12 ≤ j → j < 16 → M[j]? = some 0) (f2 : ∀ j, 12 ≤ j → j < 16 → M'[j]? = some 0) {k : Nat} (hk : k < 512) {x : UInt8} (e : sealB M' = (sealB M).set k x) : (sealB M)[k]? = some x := by
  have hg : ∀ (X : List UInt8) (hX : X.length = 512) (j : Nat), (sealB X)[j]? = if 12 ≤ j ∧ j < 16 then (wd (Cr.sum X))[j - 12]? else X[j]? := fun X hX j => by
    unfold sealB
    rw [splice_get _ _ _ (by rw [hX, wd_len4]; omega), wd_len4]
    by_cases a : j < 12
    · rw [if_pos a, if_neg (by omega)]
    · rw [if_neg a]
      by_cases b : j < 16
      · rw [if_pos (by omega), if_pos (by omega)]
      · rw [if_neg (by omega), if_neg (by omega)]
  have he : ∀ j, (sealB M')[j]? = if k = j then some x else (sealB M)[j]? := fun j => by
    rw [e, List.getElem?_set]
    by_cases a : k = j
    · rw [if_pos a, if_pos a, if_pos (by rw [sealB_len h1]; exact hk)]
    · rw [if_neg a, if_neg a]
  by_cases hin : 12 ≤ k ∧ k < 16
  · have hM : M' = M := by
      apply List.ext_getElem?
      intro j
      by_cases a : 12 ≤ j ∧ j < 16
      · rw [f1 j a.1 a.2, f2 j a.1 a.2]
      · have := he j
        rw [hg M' h2, hg M h1, if_neg a, if_neg a, if_neg (by omega)] at this
        exact this
    have := he k
    rw [if_pos rfl, hM] at this
    exact this
  · have hM : M' = M.set k x := by
      apply List.ext_getElem?
      intro j
      rw [List.getElem?_set, h1]
      by_cases a : 12 ≤ j ∧ j < 16
      · rw [if_neg (by omega), f1 j a.1 a.2, f2 j a.1 a.2]
      · have := he j
        rw [hg M' h2, hg M h1, if_neg a, if_neg a] at this
        rw [this]
        by_cases b : k = j
        · rw [if_pos b, if_pos b, if_pos (by omega)]
        · rw [if_neg b, if_neg b]
    have hs : wd (Cr.sum M') = wd (Cr.sum M) := by
      apply List.ext_getElem?
      intro j
      by_cases a : j < 4
      · have := he (12 + j)
        rw [if_neg (show ¬ k = 12 + j by omega), hg M' h2, hg M h1, if_pos (by omega), if_pos (by omega), Nat.add_sub_cancel_left] at this
        exact this
      · rw [List.getElem?_eq_none (by rw [wd_len4]; omega), List.getElem?_eq_none (by rw [wd_len4]; omega)]
    have hc := wd_inj (Cr.sum_lt _) (Cr.sum_lt _) hs
    rw [hM] at hc
    have := Cr.sum_set x M k (by omega) hc
    rw [hg M h1, if_neg hin, List.getElem?_eq_getElem (by omega), this]
end Go.Proofs.YtilijbplfobneaaDoor
