/- RatioMins: for all rows -/
import Derived.Test.YthjhhnolkiejpaaDoorVj
import Derived.Test.YthjhhnolkiejpaaDoorVk
namespace Go.Proofs.YthjhhnolkiejpaaDoor
set_option linter.unusedVariables false
open Go.ChangeShapes Go.WideShapes Go.ChangeAt Go.RowKit

theorem walk_RatioMins (W : World) (v0 v1 : Value)
    (B0 : v0 = .slice none 0 0 ∨ ∃ (b off n cap : Nat) (A B C : Nat → Nat), v0 = .slice (some ⟨b, off, none⟩) n cap ∧ n ≤ cap ∧ (cap : Int) ≤ 9223372036854775807 ∧
      ∀ k, k < n → (Wd (A k) ∧ Wd (B k) ∧ Wd (C k)) ∧ W.cell? ⟨b, off + k * 3, none⟩ = some (.int .u64 (A k)) ∧ W.cell? ⟨b, off + k * 3 + 1, none⟩ = some (.int .u64 (B k)) ∧ W.cell? ⟨b, off + k * 3 + 2, none⟩ = some (.int .u64 (C k)))
    (B1 : v1 = .slice none 0 0 ∨ ∃ (b off n cap : Nat) (A B C : Nat → Nat), v1 = .slice (some ⟨b, off, none⟩) n cap ∧ n ≤ cap ∧ (cap : Int) ≤ 9223372036854775807 ∧
      ∀ k, k < n → (Wd (A k) ∧ Wd (B k) ∧ Wd (C k)) ∧ W.cell? ⟨b, off + k * 3, none⟩ = some (.int .u64 (A k)) ∧ W.cell? ⟨b, off + k * 3 + 1, none⟩ = some (.int .u64 (B k)) ∧ W.cell? ⟨b, off + k * 3 + 2, none⟩ = some (.int .u64 (C k)))
    (hp : Lib.TabIs Tryd.prog W "internal/strconv.uint64pow10" .u64 Lib.pow10Tab) :
    Calls Tryd.prog 7 #[v0, v1] W fun e w' => e = .returned (.bool true) ∧ Gr W w' := by
  rcases B0 with rfl | ⟨b, off, n, cap, A, B, C, rfl, -, -, hc⟩ <;> rcases B1 with rfl | ⟨b', off', m, cap', A', B', C', rfl, -, -, hc'⟩
  · exact mins_early _ _ _ _ _ _ W hp (Or.inl rfl)
  · exact mins_early _ _ _ _ _ _ W hp (Or.inl rfl)
  · exact mins_early _ _ _ _ _ _ W hp (Or.inr (Or.inl rfl))
  · by_cases h : n = 0 ∨ m = 0 ∨ 60 < n ∨ 60 < m
    · exact mins_early _ _ _ _ _ _ W hp h
    · exact mins_core b off n cap b' off' m cap' A B C A' B' C' W hp (by omega) (by omega) (fun k hk => (hc k hk).1) (fun k hk => (hc' k hk).1) (fun k hk => (hc k hk).2) (fun k hk => (hc' k hk).2)
end Go.Proofs.YthjhhnolkiejpaaDoor
