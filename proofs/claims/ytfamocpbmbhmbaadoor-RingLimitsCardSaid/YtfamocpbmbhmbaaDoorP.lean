/- the document's own sums, against the program's: WideAdds -/
import Derived.Test.YtfamocpbmbhmbaaDoorE
import Derived.Test.YtfamocpbmbhmbaaDoorI
namespace Go.Proofs.YtfamocpbmbhmbaaDoor
set_option linter.unusedVariables false
open Go.ChangeShapes Go.WideShapes Go.ChangeAt Go.RowKit

theorem c_rAdd (ah al bh bl : Nat) (h1 : Wd ah) (h2 : Wd al) (h3 : Wd bh) (h4 : Wd bl) (w : World) :
    Calls Tryd.prog 26 #[.agg #[.int .u64 ah, .int .u64 al], .agg #[.int .u64 bh, .int .u64 bl]] w fun e w' => e = .returned (.tuple #[.agg #[.int .u64 (((val ah al + val bh bl) / 18446744073709551616 % 18446744073709551616 : Nat) : Int), .int .u64 (((val ah al + val bh bl) % 18446744073709551616 : Nat) : Int)], .bool (decide (18446744073709551616 ≤ (val ah al + val bh bl) / 18446744073709551616))]) ∧ Gr w w' := by
  obtain ⟨s0, hs0⟩ : ∃ s, s = (ah + bh) % 18446744073709551616 := ⟨_, rfl⟩
  obtain ⟨sl, hsl⟩ : ∃ s, s = (val ah al + val bh bl) % 18446744073709551616 := ⟨_, rfl⟩
  obtain ⟨sh, hsh⟩ : ∃ s, s = (val ah al + val bh bl) / 18446744073709551616 % 18446744073709551616 := ⟨_, rfl⟩
  have hsl' : sl = (al + bl) % 18446744073709551616 := by rw [hsl]; unfold val; omega
  have w3 : Wd sh := by rw [hsh]; exact wd_mod _
  have w4 : Wd sl := by rw [hsl]; exact wd_mod _
  have hv : val sh sl = (val ah al + val bh bl) % 340282366920938463463374607431768211456 := by rw [hsh, hsl]; generalize val ah al + val bh bl = X; unfold val; omega
  have hA := val_lt h1 h2
  have hB := val_lt h3 h4
  have ho : decide (cmpN (val sh sl) (val ah al) < 0) = decide (18446744073709551616 ≤ (val ah al + val bh bl) / 18446744073709551616) := by
    rw [cmp_lt0, decide_eq_decide, hv]; omega
  rw [← hsl, ← hsh, ← ho]
  refine radd_core ah al bh bl s0 sh sl _ _ (decide (sl < al)) w ?_ ?_ rfl ?_ ?_ rfl (fun w => c_rCompare sh sl ah al w3 w4 h1 h2 w)
  · rw [IntKind.wrap_u64]; unfold Wd at *; omega
  · rw [IntKind.wrap_u64]; unfold Wd at *; omega
  · intro hc
    have hc := of_decide_eq_true hc
    rw [IntKind.wrap_u64]; unfold Wd val at *; omega
  · intro hc
    have hc := of_decide_eq_false hc
    unfold Wd val at *; omega

end Go.Proofs.YtfamocpbmbhmbaaDoor
