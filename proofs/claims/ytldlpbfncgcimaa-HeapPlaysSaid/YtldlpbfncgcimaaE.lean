/- the document's own sums and comparisons -/
import Derived.Test.YtldlpbfncgcimaaB
import Derived.Test.YtldlpbfncgcimaaH
import Derived.Deep.DeepCutAuto
namespace Go.Proofs.Ytldlpbfncgcimaa
set_option linter.unusedVariables false
open Go.ChangeShapes Go.WideShapes Go.ChangeAt Go.RowKit

theorem c_rCompare (ah al bh bl : Nat) (h1 : Wd ah) (h2 : Wd al) (h3 : Wd bh) (h4 : Wd bl) (w : World) :
    Calls Try.prog 57 #[.agg #[.int .u64 ah, .int .u64 al], .agg #[.int .u64 bh, .int .u64 bl]] w fun e w' => e = .returned (.int .i64 (cmpN (val ah al) (val bh bl))) ∧ Gr w w' := by
  rcases Nat.lt_trichotomy ah bh with h | h | h
  · have e : val ah al < val bh bl := by unfold val Wd at *; omega
    rw [cmpN_lt e]
    clear h1 h2 h3 h4 e
    have hd : decide (ah < bh) = true := decide_eq_true h
    go_enter Try.func57, Try.ntmps57
    go_wp2
    go_ret
    exact ⟨rfl, by go_grown⟩
  · subst h
    rcases Nat.lt_trichotomy al bl with g | g | g
    · have e : val ah al < val ah bl := by unfold val; omega
      rw [cmpN_lt e]
      clear h1 h2 h3 h4 e
      have hd : decide (al < bl) = true := decide_eq_true g
      go_enter Try.func57, Try.ntmps57
      go_wp2
      go_ret
      exact ⟨rfl, by go_grown⟩
    · subst g
      rw [cmpN_eq rfl]
      clear h1 h2 h3 h4
      go_enter Try.func57, Try.ntmps57
      go_wp2
      go_ret
      exact ⟨rfl, by go_grown⟩
    · have e : val ah bl < val ah al := by unfold val; omega
      rw [cmpN_gt e]
      clear h1 h2 h3 h4 e
      have hd : decide (al < bl) = false := decide_eq_false (by omega)
      have hn : ((al : Int) == (bl : Int)) = false := by simp; omega
      go_enter Try.func57, Try.ntmps57
      go_wp2
      go_ret
      exact ⟨rfl, by go_grown⟩
  · have e : val bh bl < val ah al := by unfold val Wd at *; omega
    rw [cmpN_gt e]
    clear h1 h2 h3 h4 e
    have hd : decide (ah < bh) = false := decide_eq_false (by omega)
    have hn : ((ah : Int) == (bh : Int)) = false := by simp; omega
    go_enter Try.func57, Try.ntmps57
    go_wp2
    go_ret
    exact ⟨rfl, by go_grown⟩
end Go.Proofs.Ytldlpbfncgcimaa
