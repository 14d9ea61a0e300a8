/- structs of numbers that come in -/
import Derived.Test.YtfamocpbmbhmbaaDoorK
namespace Go.Proofs.YtfamocpbmbhmbaaDoor
set_option linter.unusedVariables false
open Go.ChangeShapes Go.WideShapes Go.ChangeAt Go.RowKit
section
variable {P : Program} {w : World} {r : Reach} {base : Nat} {t : TypeId} {v : Value}
theorem open_cells {fs : Array Field} {us : List TypeId} {n : Nat} (ht : P.underlying t = some (.struct fs)) (hts : P.cellTypes P.depth t = some us) (hn : us.length = n) (hc : P.cellsOf t = n) (h : Value.okWide P w r base t v) :
    ∃ cs : Array Value, v = .agg cs ∧ cs.size = n ∧ ∀ (i : Nat) u k, us[i]? = some u → P.underlying u = some (.int k) → ∃ z, cs[i]? = some (.int k z) ∧ k.has z := by
  simp only [Value.okWide, ht] at h
  obtain ⟨cs, rfl, hs, ts, hts', -, hall⟩ := h
  rw [hts] at hts'
  obtain rfl := Option.some.inj hts'
  refine ⟨cs, rfl, by rw [hs, hc], fun i u k hu hk => ?_⟩
  have hlt : i < us.length := by
    rcases Nat.lt_or_ge i us.length with h | h
    · exact h
    · rw [List.getElem?_eq_none h] at hu; cases hu
  have hi : i < cs.size := by rw [hs, hc, ← hn]; exact hlt
  obtain ⟨u', hu', hok⟩ := hall i cs[i] (by simp [hi])
  rw [Nat.mod_eq_of_lt hlt, hu] at hu'
  obtain rfl := Option.some.inj hu'
  simp only [Cell.okWide, hk] at hok
  have hok' : Cell.ok P w r base u cs[i] := by
    cases hcs : cs[i] <;> simp_all
  simp only [Cell.ok, hk] at hok'
  cases hcs : cs[i] <;> simp only [hcs] at hok' <;> try exact hok'.elim
  obtain ⟨rfl, hb⟩ := hok'
  exact ⟨_, by simp [hi, hcs], hb⟩
theorem i64_has {z : Int} (h : IntKind.i64.has z) : -9223372036854775808 ≤ z ∧ z ≤ 9223372036854775807 := h
theorem u64_has {z : Int} (h : IntKind.u64.has z) : ∃ a : Nat, z = a ∧ a < 18446744073709551616 := by
  have h1 : 0 ≤ z := h.1
  have h2 : z ≤ 18446744073709551615 := h.2
  exact ⟨z.toNat, (Int.toNat_of_nonneg h1).symm, by omega⟩
theorem open_pt {fs : Array Field} {u : TypeId} (ht : P.underlying t = some (.struct fs)) (hts : P.cellTypes P.depth t = some [u, u]) (hc : P.cellsOf t = 2) (hu : P.underlying u = some (.int .i64)) (h : Value.okWide P w r base t v) :
    ∃ x y : Int, v = .agg #[.int .i64 x, .int .i64 y] ∧ (-9223372036854775808 ≤ x ∧ x ≤ 9223372036854775807) ∧ (-9223372036854775808 ≤ y ∧ y ≤ 9223372036854775807) := by
  obtain ⟨cs, rfl, hs, hi⟩ := open_cells (n := 2) ht hts rfl hc h
  obtain ⟨x, hx, bx⟩ := hi 0 u .i64 rfl hu
  obtain ⟨y, hy, by'⟩ := hi 1 u .i64 rfl hu
  refine ⟨x, y, ?_, i64_has bx, i64_has by'⟩
  congr 1
  apply Array.ext_getElem?
  intro i
  match i with
  | 0 => exact hx
  | 1 => exact hy
  | k + 2 => rw [Array.getElem?_eq_none (by omega), Array.getElem?_eq_none (by simp)]
theorem open_box {fs : Array Field} {u : TypeId} (ht : P.underlying t = some (.struct fs)) (hts : P.cellTypes P.depth t = some [u, u, u, u]) (hc : P.cellsOf t = 4) (hu : P.underlying u = some (.int .i64)) (h : Value.okWide P w r base t v) :
    ∃ x y z q : Int, v = .agg #[.int .i64 x, .int .i64 y, .int .i64 z, .int .i64 q] ∧ (-9223372036854775808 ≤ x ∧ x ≤ 9223372036854775807) ∧ (-9223372036854775808 ≤ y ∧ y ≤ 9223372036854775807) ∧ (-9223372036854775808 ≤ z ∧ z ≤ 9223372036854775807) ∧ (-9223372036854775808 ≤ q ∧ q ≤ 9223372036854775807) := by
  obtain ⟨cs, rfl, hs, hi⟩ := open_cells (n := 4) ht hts rfl hc h
  obtain ⟨x, hx, bx⟩ := hi 0 u .i64 rfl hu
  obtain ⟨y, hy, by'⟩ := hi 1 u .i64 rfl hu
  obtain ⟨z, hz, bz⟩ := hi 2 u .i64 rfl hu
  obtain ⟨q, hq, bq⟩ := hi 3 u .i64 rfl hu
  refine ⟨x, y, z, q, ?_, i64_has bx, i64_has by', i64_has bz, i64_has bq⟩
  congr 1
  apply Array.ext_getElem?
  intro i
  match i with
  | 0 => exact hx
  | 1 => exact hy
  | 2 => exact hz
  | 3 => exact hq
  | k + 4 => rw [Array.getElem?_eq_none (by omega), Array.getElem?_eq_none (by simp)]
theorem open_dist {fs : Array Field} {u : TypeId} (ht : P.underlying t = some (.struct fs)) (hts : P.cellTypes P.depth t = some [u, u, u]) (hc : P.cellsOf t = 3) (hu : P.underlying u = some (.int .u64)) (h : Value.okWide P w r base t v) :
    ∃ x y z : Nat, v = .agg #[.int .u64 x, .int .u64 y, .int .u64 z] ∧ x < 18446744073709551616 ∧ y < 18446744073709551616 ∧ z < 18446744073709551616 := by
  obtain ⟨cs, rfl, hs, hi⟩ := open_cells (n := 3) ht hts rfl hc h
  obtain ⟨x0, hx, bx⟩ := hi 0 u .u64 rfl hu
  obtain ⟨y0, hy, by'⟩ := hi 1 u .u64 rfl hu
  obtain ⟨z0, hz, bz⟩ := hi 2 u .u64 rfl hu
  obtain ⟨x, rfl, cx⟩ := u64_has bx
  obtain ⟨y, rfl, cy⟩ := u64_has by'
  obtain ⟨z, rfl, cz⟩ := u64_has bz
  refine ⟨x, y, z, ?_, cx, cy, cz⟩
  congr 1
  apply Array.ext_getElem?
  intro i
  match i with
  | 0 => exact hx
  | 1 => exact hy
  | 2 => exact hz
  | k + 3 => rw [Array.getElem?_eq_none (by omega), Array.getElem?_eq_none (by simp)]
theorem open_near {fs : Array Field} {u0 u : TypeId} (ht : P.underlying t = some (.struct fs)) (hts : P.cellTypes P.depth t = some [u0, u, u, u]) (hc : P.cellsOf t = 4) (hu0 : P.underlying u0 = some (.int .i64)) (hu : P.underlying u = some (.int .u64)) (h : Value.okWide P w r base t v) :
    ∃ (n : Int) (x y z : Nat), v = .agg #[.int .i64 n, .int .u64 x, .int .u64 y, .int .u64 z] ∧ (-9223372036854775808 ≤ n ∧ n ≤ 9223372036854775807) ∧ x < 18446744073709551616 ∧ y < 18446744073709551616 ∧ z < 18446744073709551616 := by
  obtain ⟨cs, rfl, hs, hi⟩ := open_cells (n := 4) ht hts rfl hc h
  obtain ⟨n, hn, bn⟩ := hi 0 u0 .i64 rfl hu0
  obtain ⟨x0, hx, bx⟩ := hi 1 u .u64 rfl hu
  obtain ⟨y0, hy, by'⟩ := hi 2 u .u64 rfl hu
  obtain ⟨z0, hz, bz⟩ := hi 3 u .u64 rfl hu
  obtain ⟨x, rfl, cx⟩ := u64_has bx
  obtain ⟨y, rfl, cy⟩ := u64_has by'
  obtain ⟨z, rfl, cz⟩ := u64_has bz
  refine ⟨n, x, y, z, ?_, i64_has bn, cx, cy, cz⟩
  congr 1
  apply Array.ext_getElem?
  intro i
  match i with
  | 0 => exact hn
  | 1 => exact hx
  | 2 => exact hy
  | 3 => exact hz
  | k + 4 => rw [Array.getElem?_eq_none (by omega), Array.getElem?_eq_none (by simp)]
end
end Go.Proofs.YtfamocpbmbhmbaaDoor
