/- frame: Next, Put's refusal; a framed row is read -/
import Derived.Test.YtmcbanplpgooeaaDoorFj
namespace Go.Proofs.YtmcbanplpgooeaaDoor
set_option linter.unusedVariables false
open Go.ChangeShapes Go.WideShapes Go.ChangeAt Go.RowKit

theorem fr_split (L M : List UInt8) : fr L ++ M = (wd L.length ++ L) ++ (wd (Cr.sum (wd L.length ++ L)) ++ M) := by unfold fr; simp [List.append_assoc]
theorem fr_wv (L M : List UInt8) (h : L.length ≤ 65536) : wv (fr L ++ M) = L.length := by
  rw [fr_split, List.append_assoc, wv_wd _ (by omega)]
theorem fr_ok (L M : List UInt8) (h : L.length ≤ 65536) : nx (fr L ++ M) = 0 ∧ nxRow (fr L ++ M) = L ∧ nxLen (fr L ++ M) = L.length + 8 := by
  have hw := fr_wv L M h
  have hd : (fr L ++ M).drop (4 + L.length) = wd (Cr.sum (wd L.length ++ L)) ++ M := by
    rw [fr_split]; exact List.drop_left' (by rw [List.length_append, wd_len])
  have ht : (fr L ++ M).take (4 + L.length) = wd L.length ++ L := by
    rw [fr_split]; exact List.take_left' (by rw [List.length_append, wd_len])
  have hl : (fr L ++ M).length = L.length + 8 + M.length := by rw [List.length_append, fr_len]
  have h0 : nx (fr L ++ M) = 0 := by
    unfold nx
    rw [hw, hd, ht, hl, if_neg (by omega), if_neg (by omega), if_neg (by omega), if_pos (wv_wd _ (Cr.sum_lt _) _)]
  refine ⟨h0, ?_, ?_⟩
  · unfold nxRow
    rw [if_pos h0, hw, ht]
    exact List.drop_left' (wd_len _)
  · unfold nxLen
    rw [if_pos h0, hw]
set_option maxHeartbeats 2000000 in
set_option maxRecDepth 100000 in
theorem c_Next {L : List UInt8} {v : Value} (W : World) (hF : FT W) (h : Row W v L) (hl : L.length ≤ 1000000) :
    Calls Tryd.prog 69 #[v] W (NextTo W L 0) := by
  have A1 : Calls Tryd.prog 141 #[v, .int .i64 0] W (NextTo W L 0) := c_nextAt 0 W hF h (Nat.zero_le _) hl
  have H1 := Lib.hid A1
  clear A1
  clear hF h hl
  go_enter Tryd.func69, Tryd.ntmps69
  go_wp2_with fail
  go_at_call 141
  (with_reducible refine H1.out.mono ?_)
  rintro e w1 ⟨q, x, rfl, h1, h2, h3⟩
  go_wp2_with fail
  go_ret3
  exact ⟨q, x, rfl, h1, h2, h3⟩
set_option maxHeartbeats 2000000 in
set_option maxRecDepth 100000 in
/-- Too many bytes. -/
theorem c_PutNo (ad : Option Addr) (n cap : Nat) (W : World) (hn : 65536 < n) :
    Calls Tryd.prog 67 #[.slice ad n cap] W fun e w' => ∃ B, e = .returned (.tuple #[.slice none 0 0, .iface 64 (.pointer (some ⟨B, 0, none⟩))]) ∧ FaultAt w' B frameS 0 13 ∧ Gr W w' := by
  have d1 : decide ((65536 : Int) < (n : Int)) = true := decide_eq_true (by omega)
  have d2 : (65536 : Int) < (n : Int) := by omega
  go_enter Tryd.func67, Tryd.ntmps67
  go_wp2_with fail
  go_at_call 46
  (with_reducible refine (c_Fault frameS 0 13 _).mono ?_)
  rintro e w1 ⟨B1, rfl, hB, hFa, g1⟩
  go_wp2_with fail
  go_ret2
  exact ⟨B1, rfl, hFa, g1⟩
end Go.Proofs.YtmcbanplpgooeaaDoor
