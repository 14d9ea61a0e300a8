/- a frame with one byte of its text turned is spoilt; Round -/
import Derived.Test.YtmcbanplpgooeaaDoorFk
import Derived.Test.YtmcbanplpgooeaaDoorFm
namespace Go.Proofs.YtmcbanplpgooeaaDoor
set_option linter.unusedVariables false
open Go.ChangeShapes Go.WideShapes Go.ChangeAt Go.RowKit

theorem fr_set (L : List UInt8) (i : Nat) (x : UInt8) (h : i < L.length) : (fr L).set (4 + i) x = (wd L.length ++ L.set i x) ++ wd (Cr.sum (wd L.length ++ L)) := by
  unfold fr
  rw [List.set_append_left _ _ (by rw [List.length_append, wd_len]; omega), List.set_append_right _ _ (by rw [wd_len]; omega), wd_len, Nat.add_sub_cancel_left]
theorem fr_flip (L : List UInt8) (i : Nat) (x : UInt8) (h : i < L.length) (hl : L.length ≤ 65536) (hx : x ≠ L[i]) : nx ((fr L).set (4 + i) x) = 10 := by
  have hlen : (fr L).length = L.length + 8 := fr_len L
  have hn : (wd L.length ++ L.set i x).length = 4 + L.length := by rw [List.length_append, wd_len, List.length_set]
  have hw : wv ((fr L).set (4 + i) x) = L.length := by rw [fr_set L i x h, List.append_assoc, wv_wd _ (by omega)]
  have hd : ((fr L).set (4 + i) x).drop (4 + L.length) = wd (Cr.sum (wd L.length ++ L)) ++ [] := by
    rw [fr_set L i x h, List.append_nil]; exact List.drop_left' hn
  have ht : ((fr L).set (4 + i) x).take (4 + L.length) = wd L.length ++ L.set i x := by
    rw [fr_set L i x h]; exact List.take_left' hn
  unfold nx
  rw [hw, hd, ht, List.length_set, hlen, if_neg (by omega), if_neg (by omega), if_neg (by omega), wv_wd _ (Cr.sum_lt _) [], if_neg]
  intro e
  have hs : wd L.length ++ L.set i x = (wd L.length ++ L).set (4 + i) x := by
    rw [List.set_append_right _ _ (by rw [wd_len]; omega), wd_len, Nat.add_sub_cancel_left]
  rw [hs] at e
  have k := Cr.sum_set x (wd L.length ++ L) (4 + i) (by rw [List.length_append, wd_len]; omega) e.symm
  refine hx (k.trans ?_)
  rw [List.getElem_append_right (by rw [wd_len]; omega)]
  congr 1
  rw [wd_len]; omega
end Go.Proofs.YtmcbanplpgooeaaDoor
