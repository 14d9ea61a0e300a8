/- RatioMins: the walk -/
import Derived.Test.YthjhhnolkiejpaaDoorVa
import Derived.Test.YthjhhnolkiejpaaDoorVh
import Derived.Test.YthjhhnolkiejpaaDoorRf
import Derived.ArgAppend
import Derived.Deep.RegionWith
namespace Go.Proofs.YthjhhnolkiejpaaDoor
set_option linter.unusedVariables false
open Go.ChangeShapes Go.WideShapes Go.ChangeAt Go.RowKit

/-- The j-th cell of a row of distances. -/
def cellF (H L D : Nat → Nat) (j : Nat) : Value := .int .u64 (if j % 3 = 0 then H (j / 3) else if j % 3 = 1 then L (j / 3) else D (j / 3))
def rowD (H L D : Nat → Nat) (n : Nat) : List Value := (List.range (n * 3)).map (cellF H L D)
theorem rowD_len (H L D : Nat → Nat) (n : Nat) : (rowD H L D n).length = n * 3 := by simp [rowD]
theorem rowD_one (H L D : Nat → Nat) (n : Nat) : ∀ u ∈ rowD H L D n, u.oneCell' = true := by
  intro u h
  obtain ⟨j, -, rfl⟩ := List.mem_map.1 h
  rfl
theorem rowD_get (H L D : Nat → Nat) (n j : Nat) (h : j < n * 3) : (rowD H L D n)[j]? = some (cellF H L D j) := by
  simp [rowD, h]
theorem cellF_0 (H L D : Nat → Nat) (k : Nat) : cellF H L D (k * 3) = .int .u64 (H k) := by
  unfold cellF
  rw [if_pos (by omega), show k * 3 / 3 = k by omega]
theorem cellF_1 (H L D : Nat → Nat) (k : Nat) : cellF H L D (k * 3 + 1) = .int .u64 (L k) := by
  unfold cellF
  rw [if_neg (by omega), if_pos (by omega), show (k * 3 + 1) / 3 = k by omega]
theorem cellF_2 (H L D : Nat → Nat) (k : Nat) : cellF H L D (k * 3 + 2) = .int .u64 (D k) := by
  unfold cellF
  rw [if_neg (by omega), if_neg (by omega), show (k * 3 + 2) / 3 = k by omega]
theorem rowD_cat (n m : Nat) (H L D H' L' D' : Nat → Nat) : rowD H L D n ++ rowD H' L' D' m = rowD (catN n H H') (catN n L L') (catN n D D') (n + m) := by
  unfold rowD
  rw [Nat.add_mul, List.range_add, List.map_append, List.map_map]
  congr 1
  · apply List.map_congr_left
    intro j h
    have hj : j < n * 3 := List.mem_range.1 h
    unfold cellF
    rw [cat_lt H H' (by omega), cat_lt L L' (by omega), cat_lt D D' (by omega)]
  · apply List.map_congr_left
    intro j h
    show cellF H' L' D' j = cellF _ _ _ (n * 3 + j)
    unfold cellF
    rw [show (n * 3 + j) % 3 = j % 3 by omega, show (n * 3 + j) / 3 = n + j / 3 by omega, cat_ge, cat_ge, cat_ge]
theorem row_at {b off n : Nat} {H L D : Nat → Nat} {w : World} (hc : ∀ k, k < n → w.cell? ⟨b, off + k * 3, none⟩ = some (.int .u64 (H k)) ∧ w.cell? ⟨b, off + k * 3 + 1, none⟩ = some (.int .u64 (L k)) ∧ w.cell? ⟨b, off + k * 3 + 2, none⟩ = some (.int .u64 (D k))) :
    ∀ j u, (rowD H L D n)[j]? = some u → w.cell? ((⟨b, off, none⟩ : Addr).add j) = some u := by
  intro j u h
  have hj : j < n * 3 := by
    have := (List.getElem?_eq_some_iff.1 h).1
    rwa [rowD_len] at this
  rw [rowD_get _ _ _ _ _ hj] at h
  cases h
  rw [addr_add3]
  have hk := hc (j / 3) (by omega)
  rcases (show j = j / 3 * 3 ∨ j = j / 3 * 3 + 1 ∨ j = j / 3 * 3 + 2 by omega) with e | e | e
  · rw [e, cellF_0]
    exact hk.1
  · generalize j / 3 = q at *
    subst e
    rw [cellF_1]
    exact hk.2.1
  · generalize j / 3 = q at *
    subst e
    rw [cellF_2]
    exact hk.2.2
theorem row_cells {g n cap base size : Nat} {e : TypeId} {H L D : Nat → Nat} {w : World} (h : w.ownsRow base e 3 (.slice (some ⟨g, 0, none⟩) n cap) n (rowD H L D n)) :
    ∀ k, k < n → w.cell? ⟨g, 0 + k * 3, none⟩ = some (.int .u64 (H k)) ∧ w.cell? ⟨g, 0 + k * 3 + 1, none⟩ = some (.int .u64 (L k)) ∧ w.cell? ⟨g, 0 + k * 3 + 2, none⟩ = some (.int .u64 (D k)) := by
  intro k hk
  rw [Nat.zero_add]
  refine ⟨?_, ?_, ?_⟩
  · rw [h.cellAt (k * 3) (by omega), rowD_get _ _ _ _ _ (by omega), cellF_0]
  · rw [h.cellAt (k * 3 + 1) (by omega), rowD_get _ _ _ _ _ (by omega), cellF_1]
  · rw [h.cellAt (k * 3 + 2) (by omega), rowD_get _ _ _ _ _ (by omega), cellF_2]
def twoN (x y : Nat) (k : Nat) : Nat := if k = 0 then x else y
theorem cur_two (a b c x y z f v : Nat) : curI (twoN a x) (twoN b y) (twoN c z) (twoN f v) 2 = if cmpD (val x y) z (val a b) c < 0 then v else f := by
  unfold curI
  rw [if_neg (by omega), best_succ _ _ _ (show 1 ≠ 0 by omega)]
  have : bestI (twoN a x) (twoN b y) (twoN c z) 1 = 0 := by unfold bestI; simp
  rw [this]
  have e : cmpI (twoN a x) (twoN b y) (twoN c z) 1 0 = cmpD (val x y) z (val a b) c := rfl
  rw [e]
  split
  · rfl
  · rfl
theorem cur_cat (n m : Nat) (H L D F H' L' D' F' : Nat → Nat) (hn : 0 < n) (hm : 0 < m) :
    curI (catN n H H') (catN n L L') (catN n D D') (catN n F F') (n + m) = if cmpD (val (curI H' L' D' H' m) (curI H' L' D' L' m)) (curI H' L' D' D' m) (val (curI H L D H n) (curI H L D L n)) (curI H L D D n) < 0 then curI H' L' D' F' m else curI H L D F n := by
  have hb : bestI H L D n < n := by
    obtain ⟨j, rfl⟩ : ∃ j, n = j + 1 := ⟨n - 1, by omega⟩
    exact best_lt H L D j
  have g : ∀ (A B C E : Nat → Nat) (k : Nat), k ≠ 0 → curI A B C E k = E (bestI A B C k) := fun A B C E k h => if_neg h
  rw [g _ _ _ _ (n + m) (by omega), g _ _ _ _ m (by omega), g _ _ _ _ m (by omega), g _ _ _ _ m (by omega), g _ _ _ _ m (by omega), g _ _ _ _ n (by omega), g _ _ _ _ n (by omega), g _ _ _ _ n (by omega), g _ _ _ _ n (by omega), best_cat n H L D H' L' D' hn m hm]
  unfold cmpX
  split
  · rw [cat_ge]
  · rw [cat_lt F F' hb]
end Go.Proofs.YthjhhnolkiejpaaDoor
