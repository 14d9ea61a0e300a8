/- StageLimits: the walk -/
import Derived.Test.YtpomllpplpalkaaGreatDoorTj
import Derived.Test.YtpomllpplpalkaaGreatDoorTa
namespace Go.Proofs.YtpomllpplpalkaaGreatDoor
set_option linter.unusedVariables false
set_option linter.unusedSimpArgs false
open Go.ChangeShapes Go.WideShapes Go.ChangeAt Go.RowKit Go.Maps

def lo (i : Nat) : MO := ⟨shK (i % 4), shN (i % 4), gsX (i % 4) i i ((i + 1 : Nat) : Int), gsY (i % 4) i i ((i + 1 : Nat) : Int)⟩
def limS (d : Nat) : Int → Option MO := fun y => if 0 ≤ y ∧ y < d then some (lo y.toNat) else none
theorem limS_0 : limS 0 = fun _ => none := funext fun y => if_neg (by omega)
theorem limS_none (d : Nat) : limS d d = none := if_neg (by omega)
theorem limS_succ (d : Nat) : updS (limS d) d (some (lo d)) = limS (d + 1) := funext fun y => by
  unfold updS
  by_cases e : y = d
  · subst e
    rw [if_pos rfl]
    unfold limS
    rw [if_pos (by omega)]
    rfl
  · rw [if_neg e]
    unfold limS
    by_cases h : 0 ≤ y ∧ y < d
    · rw [if_pos h, if_pos (by omega)]
    · rw [if_neg h, if_neg (by omega)]
theorem lo_put (i : Nat) (hi : i < 50) : chgC 1 (i : Nat) (lo i).k (lo i).n (lo i).X (lo i).Y = 0 ∧ (lo i).n ≤ 4 ∧ ∀ W : World, Calls Tryz.prog 16 #[.int .i64 (i : Nat), .int .i64 (i : Nat), .int .i64 (i : Nat), .int .i64 (i : Nat)] W fun e w' => ∃ B, e = .returned (.agg #[.int .i64 (lo i).k, .slice (some ⟨B, 0, none⟩) (lo i).n (lo i).n]) ∧ Pts w' (.slice (some ⟨B, 0, none⟩) (lo i).n (lo i).n) (lo i).n (lo i).X (lo i).Y ∧ W.heap.size ≤ B ∧ Gr W w' ∧ Fr2 w' B := by
  obtain ⟨q, m, hq, e1, e2, h1, h2⟩ := gs_put (i : Int) i i i i ⟨by omega, by omega⟩ (by omega) (by omega) (by omega) (by omega) (by omega) (by omega) (by omega) (by omega)
  obtain rfl : q = i % 4 := by omega
  obtain rfl : m = i + 1 := by omega
  exact ⟨h1, (shN_pos hq).2, h2⟩
theorem lim_ap (d : Nat) (hd : d < 50) : apN (limS d) 1 d (lo d).k (lo d).n (lo d).X (lo d).Y = 0 := by
  unfold apN
  rw [if_neg (fun h => h (lo_put d hd).1), if_pos rfl, limS_none]
  rfl
theorem lim_aps (d : Nat) (hd : d < 50) : apS (limS d) 1 d (lo d).k (lo d).n (lo d).X (lo d).Y = limS (d + 1) := by
  unfold apS
  rw [if_neg (by rw [lim_ap d hd]; decide), if_pos rfl]
  exact limS_succ d
end Go.Proofs.YtpomllpplpalkaaGreatDoor
