/- RatioCompares, for all arguments -/
import Derived.Test.YthjhhnolkiejpaaDoorYd
namespace Go.Proofs.YthjhhnolkiejpaaDoor
set_option linter.unusedVariables false
open Go.ChangeShapes Go.WideShapes Go.ChangeAt Go.RowKit

theorem walk_RatioCompares (W : World) (ah al ad bh bl bd : Nat) (v : Value) (i j : Int)
    (B0 : ah < 18446744073709551616 ∧ al < 18446744073709551616 ∧ ad < 18446744073709551616) (B1 : bh < 18446744073709551616 ∧ bl < 18446744073709551616 ∧ bd < 18446744073709551616)
    (B2 : v = .slice none 0 0 ∨ ∃ (b off n cap : Nat) (A B C : Nat → Nat), v = .slice (some ⟨b, off, none⟩) n cap ∧ n ≤ cap ∧ (cap : Int) ≤ 9223372036854775807 ∧
      ∀ k, k < n → (Wd (A k) ∧ Wd (B k) ∧ Wd (C k)) ∧ W.cell? ⟨b, off + k * 3, none⟩ = some (.int .u64 (A k)) ∧ W.cell? ⟨b, off + k * 3 + 1, none⟩ = some (.int .u64 (B k)) ∧ W.cell? ⟨b, off + k * 3 + 2, none⟩ = some (.int .u64 (C k)))
    (B3 : -9223372036854775808 ≤ i ∧ i ≤ 9223372036854775807) (B4 : -9223372036854775808 ≤ j ∧ j ≤ 9223372036854775807) (hp : Lib.TabIs Tryd.prog W "internal/strconv.uint64pow10" .u64 Lib.pow10Tab) :
    Calls Tryd.prog 5 #[.agg #[.int .u64 ah, .int .u64 al, .int .u64 ad], .agg #[.int .u64 bh, .int .u64 bl, .int .u64 bd], v, .int .i64 i, .int .i64 j] W fun e w' => e = .returned (.bool true) ∧ Gr W w' := by
  obtain ⟨h1, h2, h3⟩ := B0
  obtain ⟨h4, h5, h6⟩ := B1
  have key : ∀ (n cap : Nat) (H L D : Nat → Nat) (a0 : Option Addr) (b off : Nat), (0 < n → a0 = some ⟨b, off, none⟩) → (∀ k, k < n → Wd (H k) ∧ Wd (L k) ∧ Wd (D k)) →
      (∀ k, k < n → W.cell? ⟨b, off + k * 3, none⟩ = some (.int .u64 (H k)) ∧ W.cell? ⟨b, off + k * 3 + 1, none⟩ = some (.int .u64 (L k)) ∧ W.cell? ⟨b, off + k * 3 + 2, none⟩ = some (.int .u64 (D k))) →
      Calls Tryd.prog 5 #[.agg #[.int .u64 ah, .int .u64 al, .int .u64 ad], .agg #[.int .u64 bh, .int .u64 bl, .int .u64 bd], .slice a0 n cap, .int .i64 i, .int .i64 j] W fun e w' => e = .returned (.bool true) ∧ Gr W w' := by
    intro n cap H L D a0 b off ha hw hc
    by_cases hl : 100 < n
    · exact comps_long ah al ad bh bl bd n cap a0 i j W (decide_eq_true (by omega)) (decide_eq_true hl) hp
    · refine comps_core ah al ad bh bl bd n cap H L D a0 b off ha i j (decide (ad ≠ 0)) (lessB (val ah al) ad (val bh bl) bd i j) (cmpD (val ah al) ad (val bh bl) bd) ⟨(txtD (val ah al) ad).toArray⟩ W (by omega) (decide_eq_false (by omega)) (decide_eq_false hl) hw hc hp ?_ ?_
        (fun w => c_rtCompare ah al ad bh bl bd h1 h2 h3 h4 h5 h6 w) (fun w => c_rCompareDist ah al ad bh bl bd h1 h2 h3 h4 h5 h6 w) (fun w g => c_rtTextD ah al ad h1 h2 h3 w (tab_below hp g)) (fun w => c_rTextDist ah al ad h1 h2 h3 w)
        (fun w => c_Less i j ah al ad bh bl bd h1 h2 h3 h4 h5 h6 w) (fun w => c_rLess i j ah al ad bh bl bd h1 h2 h3 h4 h5 h6 w) (fun w => c_Sound ah al ad w)
      · by_cases h : ad = 0
        · subst h; rfl
        · have e : ((ad : Int) == 0) = false := by simp; omega
          simp [bne, e, h]
      · by_cases h : ad = 0
        · subst h; rfl
        · have e : ((ad : Int) == 0) = false := by simp; omega
          simp [e, h]
  rcases B2 with rfl | ⟨b, off, n, cap, A, B, C, rfl, -, -, hc⟩
  · exact key 0 0 (fun _ => 0) (fun _ => 0) (fun _ => 0) none 0 0 (fun h => by omega) (fun k hk => by omega) (fun k hk => by omega)
  · exact key n cap A B C _ b off (fun _ => rfl) (fun k hk => (hc k hk).1) (fun k hk => (hc k hk).2)
end Go.Proofs.YthjhhnolkiejpaaDoor
