/- frame: a row of frames read to its end: plain facts -/
import Derived.Test.YtmcbanplpgooeaaDoorFn
namespace Go.Proofs.YtmcbanplpgooeaaDoor
set_option linter.unusedVariables false
open Go.ChangeShapes Go.WideShapes Go.ChangeAt Go.RowKit

theorem nx_zero {L : List UInt8} (h : nx L = 0) : wv L ≤ 65536 ∧ wv L + 8 ≤ L.length := by
  unfold nx at h
  by_cases h1 : L.length < 4
  · rw [if_pos h1] at h; omega
  rw [if_neg h1] at h
  by_cases h2 : 65536 < wv L
  · rw [if_pos h2] at h; omega
  rw [if_neg h2] at h
  by_cases h3 : L.length < wv L + 8
  · rw [if_pos h3] at h; omega
  exact ⟨by omega, by omega⟩
theorem nx_cases (L : List UInt8) : nx L = 0 ∨ nx L = 10 ∨ nx L = 15 := by
  unfold nx
  split
  · exact Or.inr (Or.inr rfl)
  · split
    · exact Or.inr (Or.inl rfl)
    · split
      · exact Or.inr (Or.inr rfl)
      · split
        · exact Or.inl rfl
        · exact Or.inr (Or.inl rfl)
theorem nx_nil : nx [] = 15 := by unfold nx; rw [if_pos (by simp)]
theorem nxLen_ok {L : List UInt8} (h : nx L = 0) : nxLen L = wv L + 8 := by unfold nxLen; rw [if_pos h]
theorem nx_drop {L : List UInt8} (h : nx L = 0) : (L.drop (nxLen L)).length < L.length := by
  have := nx_zero h
  rw [nxLen_ok h, List.length_drop]; omega
/-- The rows of the frames; where they end; why: 0 at the end. -/
def scRows (L : List UInt8) : List (List UInt8) := if h : nx L = 0 then nxRow L :: scRows (L.drop (nxLen L)) else []
termination_by L.length
decreasing_by exact nx_drop h
def scEnd (L : List UInt8) : Nat := if h : nx L = 0 then nxLen L + scEnd (L.drop (nxLen L)) else 0
termination_by L.length
decreasing_by exact nx_drop h
def scCode (L : List UInt8) : Nat := if h : nx L = 0 then scCode (L.drop (nxLen L)) else if L.length = 0 then 0 else nx L
termination_by L.length
decreasing_by exact nx_drop h
theorem sc_ok {L : List UInt8} (h : nx L = 0) : scRows L = nxRow L :: scRows (L.drop (nxLen L)) ∧ scEnd L = nxLen L + scEnd (L.drop (nxLen L)) ∧ scCode L = scCode (L.drop (nxLen L)) := by
  refine ⟨?_, ?_, ?_⟩
  · rw [scRows, dif_pos h]
  · rw [scEnd, dif_pos h]
  · rw [scCode, dif_pos h]
theorem sc_no {L : List UInt8} (h : nx L ≠ 0) : scRows L = [] ∧ scEnd L = 0 ∧ scCode L = (if L.length = 0 then 0 else nx L) := by
  refine ⟨?_, ?_, ?_⟩
  · rw [scRows, dif_neg h]
  · rw [scEnd, dif_neg h]
  · rw [scCode, dif_neg h]
/-- A whole frame ahead. -/
theorem sc_fr (L M : List UInt8) (h : L.length ≤ 65536) : scRows (fr L ++ M) = L :: scRows M ∧ scEnd (fr L ++ M) = L.length + 8 + scEnd M ∧ scCode (fr L ++ M) = scCode M := by
  obtain ⟨h1, h2, h3⟩ := fr_ok L M h
  obtain ⟨k1, k2, k3⟩ := sc_ok h1
  have e : (fr L ++ M).drop (nxLen (fr L ++ M)) = M := by
    rw [h3]; exact List.drop_left' (fr_len L)
  rw [e] at k1 k2 k3
  rw [h2] at k1
  rw [h3] at k2
  exact ⟨k1, k2, k3⟩
/-- Frames one behind the other. -/
def frs (Ls : List (List UInt8)) : List UInt8 := (Ls.map fr).flatten
theorem frs_cons (L : List UInt8) (Ls : List (List UInt8)) : frs (L :: Ls) = fr L ++ frs Ls := rfl
theorem frs_append (A B : List (List UInt8)) : frs (A ++ B) = frs A ++ frs B := by unfold frs; simp
theorem frs_nil : frs [] = [] := rfl
theorem sc_frs (M : List UInt8) : ∀ (Ls : List (List UInt8)), (∀ L ∈ Ls, L.length ≤ 65536) →
    scRows (frs Ls ++ M) = Ls ++ scRows M ∧ scEnd (frs Ls ++ M) = (frs Ls).length + scEnd M ∧ scCode (frs Ls ++ M) = scCode M := by
  intro Ls
  induction Ls with
  | nil => intro _; simp [frs_nil]
  | cons L Ls ih =>
    intro h
    obtain ⟨k1, k2, k3⟩ := ih (fun x hx => h x (List.mem_cons_of_mem _ hx))
    obtain ⟨j1, j2, j3⟩ := sc_fr L (frs Ls ++ M) (h L List.mem_cons_self)
    rw [frs_cons, List.append_assoc]
    refine ⟨by rw [j1, k1]; rfl, ?_, by rw [j3, k3]⟩
    rw [j2, k2, List.length_append, fr_len]; omega
/-- A part of a frame is torn. -/
theorem nx_part (L : List UInt8) (k : Nat) (hk : k < L.length + 8) (h : L.length ≤ 65536) : nx ((fr L).take k) = 15 := by
  have hl : ((fr L).take k).length = k := by rw [List.length_take, fr_len]; omega
  unfold nx
  rw [hl]
  by_cases h4 : k < 4
  · rw [if_pos h4]
  rw [if_neg h4]
  have hw : wv ((fr L).take k) = L.length := by
    have e : (fr L).take k = wd L.length ++ (L ++ wd (Cr.sum (wd L.length ++ L))).take (k - 4) := by
      have : fr L = wd L.length ++ (L ++ wd (Cr.sum (wd L.length ++ L))) := by unfold fr; rw [List.append_assoc]
      rw [this, List.take_append, wd_len, List.take_of_length_le (by rw [wd_len]; omega)]
    rw [e, wv_wd _ (by omega)]
  rw [hw, if_neg (by omega), if_pos (by omega)]
/-- Whole frames, and a part of one more. -/
theorem sc_cut (Ls : List (List UInt8)) (X : List UInt8) (hx : ∃ L k, X = (fr L).take k ∧ k < L.length + 8 ∧ L.length ≤ 65536) (h : ∀ L ∈ Ls, L.length ≤ 65536) :
    scRows (frs Ls ++ X) = Ls ∧ scEnd (frs Ls ++ X) = (frs Ls).length ∧ scCode (frs Ls ++ X) = (if X.length = 0 then 0 else 15) := by
  obtain ⟨L, k, rfl, hk, hl⟩ := hx
  obtain ⟨k1, k2, k3⟩ := sc_frs ((fr L).take k) Ls h
  have hn := nx_part L k hk hl
  obtain ⟨j1, j2, j3⟩ := sc_no (L := (fr L).take k) (by omega)
  rw [k1, k2, k3, j1, j2, j3, hn]
  exact ⟨List.append_nil _, rfl, rfl⟩
/-- A frame with a byte of its text turned, whatever is behind it. -/
theorem nx_flip (L : List UInt8) (i : Nat) (x : UInt8) (M : List UInt8) (h : i < L.length) (hl : L.length ≤ 65536) (hx : x ≠ L[i]) : nx ((fr L).set (4 + i) x ++ M) = 10 := by
  have hlen : (fr L).length = L.length + 8 := fr_len L
  have e0 := fr_set L i x h
  have hn : (wd L.length ++ L.set i x).length = 4 + L.length := by rw [List.length_append, wd_len, List.length_set]
  have e1 : (fr L).set (4 + i) x ++ M = (wd L.length ++ L.set i x) ++ (wd (Cr.sum (wd L.length ++ L)) ++ M) := by rw [e0, List.append_assoc]
  have hw : wv ((fr L).set (4 + i) x ++ M) = L.length := by rw [e1, List.append_assoc, wv_wd _ (by omega)]
  have hd : ((fr L).set (4 + i) x ++ M).drop (4 + L.length) = wd (Cr.sum (wd L.length ++ L)) ++ M := by
    rw [e1]; exact List.drop_left' hn
  have ht : ((fr L).set (4 + i) x ++ M).take (4 + L.length) = wd L.length ++ L.set i x := by
    rw [e1]; exact List.take_left' hn
  unfold nx
  rw [hw, hd, ht, List.length_append, List.length_set, hlen, if_neg (by omega), if_neg (by omega), if_neg (by omega), wv_wd _ (Cr.sum_lt _) M, if_neg]
  intro e
  have hs : wd L.length ++ L.set i x = (wd L.length ++ L).set (4 + i) x := by
    rw [List.set_append_right _ _ (by rw [wd_len]; omega), wd_len, Nat.add_sub_cancel_left]
  rw [hs] at e
  have k := Cr.sum_set x (wd L.length ++ L) (4 + i) (by rw [List.length_append, wd_len]; omega) e.symm
  refine hx (k.trans ?_)
  rw [List.getElem_append_right (by rw [wd_len]; omega)]
  congr 1
  rw [wd_len]; omega
end Go.Proofs.YtmcbanplpgooeaaDoor
