/- slots: how a page lies -/
import Derived.Test.YtilijbplfobneaaDoorMb
import Derived.Test.YtilijbplfobneaaDoorSm
import Derived.Test.YtilijbplfobneaaDoorFa
namespace Go.Proofs.YtilijbplfobneaaDoor
set_option linter.unusedVariables false
set_option linter.unusedSimpArgs false
open Go.ChangeShapes Go.WideShapes Go.ChangeAt Go.RowKit Go.Maps

def endS (S : List Sl) (i : Nat) : Nat := 512 - szT S i
def layB (kd id : Nat) (S : List Sl) : Nat → List UInt8
  | 0 => splice (splice (List.replicate 512 0) 0 [UInt8.ofNat kd, UInt8.ofNat S.length]) 2 (wd id)
  | i + 1 => match S.getD i none with
    | none => layB kd id S i
    | some L => splice (splice (splice (layB kd id S i) (endS S (i + 1)) L) (16 + 4 * i) (pr (endS S (i + 1)))) (18 + 4 * i) (pr (L.length + 1))
def sealB (M : List UInt8) : List UInt8 := splice M 12 (wd (Cr.sum M))
def pgB (kd id : Nat) (S : List Sl) : List UInt8 := sealB (layB kd id S S.length)
theorem layB_none {kd id : Nat} {S : List Sl} {i : Nat} (h : S.getD i none = none) : layB kd id S (i + 1) = layB kd id S i := by
  show (match S.getD i none with | none => _ | some L => _) = _
  rw [h]
theorem layB_some {kd id : Nat} {S : List Sl} {i : Nat} {L : List UInt8} (h : S.getD i none = some L) : layB kd id S (i + 1) = splice (splice (splice (layB kd id S i) (endS S (i + 1)) L) (16 + 4 * i) (pr (endS S (i + 1)))) (18 + 4 * i) (pr (L.length + 1)) := by
  show (match S.getD i none with | none => _ | some L => _) = _
  rw [h]
theorem szT_len {S : List Sl} (hu : usS S ≤ 512) {i : Nat} (hi : i ≤ S.length) : szT S i + 16 + 4 * S.length ≤ 512 := by
  have := szT_mono S hi
  unfold usS at hu
  omega
theorem endS_some {S : List Sl} {i : Nat} {L : List UInt8} (hu : usS S ≤ 512) (hi : i < S.length) (h : S.getD i none = some L) : endS S (i + 1) + L.length = endS S i ∧ endS S i ≤ 512 ∧ 16 + 4 * S.length ≤ endS S (i + 1) := by
  have h1 := szT_len hu (show i + 1 ≤ S.length by omega)
  have h2 : szT S (i + 1) = szT S i + szO (S.getD i none) := rfl
  rw [h] at h2
  have h3 : szO (some L : Sl) = L.length := rfl
  rw [h3] at h2
  unfold endS
  omega
theorem endS_none {S : List Sl} {i : Nat} (h : S.getD i none = none) : endS S (i + 1) = endS S i := by
  have h2 : szT S (i + 1) = szT S i + szO (S.getD i none) := rfl
  rw [h] at h2
  unfold endS
  rw [h2]
  rfl
theorem pr_len (v : Nat) : (pr v).length = 2 := rfl
theorem wd_len4 (v : Nat) : (wd v).length = 4 := rfl
set_option maxRecDepth 100000 in
theorem lay0_len (kd id : Nat) (S : List Sl) : (layB kd id S 0).length = 512 := by
  show (splice (splice (List.replicate 512 0) 0 _) 2 (wd id)).length = 512
  have h1 : (splice (List.replicate 512 (0 : UInt8)) 0 [UInt8.ofNat kd, UInt8.ofNat S.length]).length = 512 := by
    rw [length_splice _ _ _ (by rw [List.length_replicate]; show 0 + 2 ≤ 512; omega), List.length_replicate]
  rw [length_splice _ _ _ (by rw [h1, wd_len4]; omega), h1]
theorem layB_len (kd id : Nat) {S : List Sl} (hu : usS S ≤ 512) (h60 : S.length ≤ 60) : ∀ i, i ≤ S.length → (layB kd id S i).length = 512
  | 0, _ => lay0_len kd id S
  | i + 1, hi => by
    have ih := layB_len kd id hu h60 i (by omega)
    cases h : S.getD i none with
    | none => rw [layB_none h]; exact ih
    | some L =>
      obtain ⟨h1, h2, h3⟩ := endS_some hu (show i < S.length by omega) h
      have a1 : (splice (layB kd id S i) (endS S (i + 1)) L).length = 512 := by rw [length_splice _ _ _ (by rw [ih]; omega), ih]
      have a2 : (splice (splice (layB kd id S i) (endS S (i + 1)) L) (16 + 4 * i) (pr (endS S (i + 1)))).length = 512 := by rw [length_splice _ _ _ (by rw [a1, pr_len]; omega), a1]
      rw [layB_some h, length_splice _ _ _ (by rw [a2, pr_len]; omega), a2]
theorem splice_out {α : Type} (X : List α) (off : Nat) (cs : List α) (h : off + cs.length ≤ X.length) (j : Nat) (hj : j < off ∨ off + cs.length ≤ j) : (splice X off cs)[j]? = X[j]? := by
  rw [splice_get _ _ _ h]
  by_cases h1 : j < off
  · rw [if_pos h1]
  · rw [if_neg h1, if_neg (by omega)]
theorem sealB_len {M : List UInt8} (h : M.length = 512) : (sealB M).length = 512 := by
  unfold sealB
  rw [length_splice _ _ _ (by rw [h, wd_len4]; omega), h]
end Go.Proofs.YtilijbplfobneaaDoor
