/- HeapTurns: the entries; two heaps beside each other -/
import Derived.Test.YtldlpbfncgcimaaHm
namespace Go.Proofs.Ytldlpbfncgcimaa
set_option linter.unusedVariables false
open Go.ChangeShapes Go.WideShapes Go.ChangeAt Go.RowKit

theorem neqEnt (e : En) (w : World) : (binOp .neq 50 (.agg #[.int .i64 (e).id, .int .u64 (e).hi, .int .u64 (e).lo, .int .u64 (e).den, .bool (e).item, .int .i64 (e).node]) (.agg #[.int .i64 (e).id, .int .u64 (e).hi, .int .u64 (e).lo, .int .u64 (e).den, .bool (e).item, .int .i64 (e).node])).run Try.prog w = .ok (.bool false) w := by
  simp [go_sem]
/-- The square that the law makes of a number. -/
def sq5 (z : Int) : Nat := (z.tmod 5 * z.tmod 5).toNat
theorem tmod5 (z : Int) : -4 ≤ z.tmod 5 ∧ z.tmod 5 ≤ 4 := by
  rcases Int.le_total 0 z with h | h
  · rw [Int.tmod_eq_emod_of_nonneg h]; omega
  · have e : z = -(-z) := by omega
    rw [e, Int.neg_tmod, Int.tmod_eq_emod_of_nonneg (by omega)]; omega
theorem sq5_of (z : Int) : ((sq5 z : Nat) : Int) = z.tmod 5 * z.tmod 5 ∧ sq5 z ≤ 16 := by
  have h1 := tmod5 z
  obtain ⟨n, hn⟩ : ∃ n, n = z.tmod 5 := ⟨_, rfl⟩
  unfold sq5
  rw [← hn] at h1 ⊢
  have : n = -4 ∨ n = -3 ∨ n = -2 ∨ n = -1 ∨ n = 0 ∨ n = 1 ∨ n = 2 ∨ n = 3 ∨ n = 4 := by omega
  rcases this with rfl | rfl | rfl | rfl | rfl | rfl | rfl | rfl | rfl <;> exact ⟨rfl, by decide⟩
/-- The i-th entry that the law makes. -/
def entT (F : Nat → Int) (i : Nat) : En := ⟨i, 0, sq5 (F i), 1, decide (0 < i % 3), i⟩
theorem entT_ok (F : Nat → Int) {i : Nat} (h : i ≤ 1000) : (entT F i).ok := by
  have := (sq5_of (F i)).2
  unfold entT En.ok Wd
  simp
  omega
theorem entT_inj {F : Nat → Int} {i j : Nat} (h : cmpE (entT F i) (entT F j) = 0) : i = j := by
  unfold cmpE lexC at h
  have h0 : cmpZ (entT F i).num (entT F j).num = 0 := by
    split at h
    · split at h
      · exact h
      · rename_i e; exact absurd h e
    · rename_i e; exact absurd h e
  rw [cmpZ_0] at h0
  unfold En.num entT at h0
  split at h0 <;> split at h0 <;> simp at h0 <;> omega
set_option maxHeartbeats 2000000 in
set_option maxRecDepth 100000 in
theorem c_entry (F : Nat → Int) (q b off n cap i : Nat) (hi : i < n) (hn : n ≤ 100) (W : World) (c0 : W.cell? ⟨q, 0, none⟩ = some (.slice (some ⟨b, off, none⟩) n cap)) (c1 : W.cell? ⟨b, off + i, none⟩ = some (.int .i64 (F i))) (hq : q < W.heap.size) (hb : b < W.heap.size) :
    Calls Try.prog 32 #[.int .i64 i, .pointer (some ⟨q, 0, none⟩)] W fun e w' => e = .returned (.agg #[.int .i64 (entT F i).id, .int .u64 (entT F i).hi, .int .u64 (entT F i).lo, .int .u64 (entT F i).den, .bool (entT F i).item, .int .i64 (entT F i).node]) ∧ Gr W w' := by
  obtain ⟨z, hz⟩ : ∃ z, z = F i := ⟨_, rfl⟩
  have hs := sq5_of z
  obtain ⟨s, es⟩ : ∃ s, s = sq5 z := ⟨_, rfl⟩
  have hE : entT F i = ⟨i, 0, s, 1, decide (0 < i % 3), i⟩ := by unfold entT; rw [es, hz]
  rw [← hz] at c1
  rw [hE]
  rw [← es] at hs
  obtain ⟨t, et⟩ : ∃ t, t = z.tmod 5 := ⟨_, rfl⟩
  obtain ⟨r, er⟩ : ∃ r : Nat, r = i % 3 := ⟨_, rfl⟩
  rw [← er]
  have ht : z.tmod 5 = t := et.symm
  have hti : -4 ≤ t ∧ t ≤ 4 := by rw [et]; exact tmod5 z
  have hs1 : t * t = (s : Int) := by rw [et]; exact hs.1.symm
  have hs16 := hs.2
  have r1 : (i : Int) % 3 = (r : Int) := by omega
  have r2 : (i : Int).tmod 3 = (r : Int) := by rw [Int.tmod_eq_emod_of_nonneg (by omega)]; exact r1
  have i1 : (i : Int) < (n : Int) := by omega
  have i2 : decide ((i : Int) < (n : Int)) = true := decide_eq_true i1
  have r5 : r ≤ 100000 := by omega
  have w1 : IntKind.i64.wrap t = t := IntWalk.i64_in _ (by omega)
  have w2 : wrap64 t = t := IntWalk.wrap64_in _ (by omega)
  have s5 : s ≤ 100000 := by omega
  obtain ⟨w3, w4⟩ := wraps_small s5
  obtain ⟨w5, w6⟩ := wraps_small r5
  have w7 : IntKind.i64.wrap (t * t) = (s : Int) := by rw [hs1]; exact w4
  have w8 : IntKind.u64.wrap (s : Int) = (s : Int) := IntWalk.u64_in _ ⟨by exact Int.natCast_nonneg _, by exact Int.le_trans (Int.ofNat_le.2 s5) (by decide)⟩
  have w9 : wrap64 (t * t) = (s : Int) := by rw [hs1]; exact w3
  clear hE hs et es er hz hs16
  go_enter Try.func32, Try.ntmps32
  go_wp2_with fail
  refine bodyPost_ret (v := .agg #[.int .i64 i, .int .u64 0, .int .u64 s, .int .u64 1, .bool (decide (0 < r)), .int .i64 i]) (by simp [results, Try.results32, go_sem, *]) rfl ⟨rfl, by go_grown⟩
end Go.Proofs.Ytldlpbfncgcimaa
