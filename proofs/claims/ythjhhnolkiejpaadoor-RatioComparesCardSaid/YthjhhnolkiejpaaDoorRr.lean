/- RatioMakes -/
import Derived.Test.YthjhhnolkiejpaaDoorRl
import Derived.Test.YthjhhnolkiejpaaDoorRd
import Derived.Test.YthjhhnolkiejpaaDoorRi
namespace Go.Proofs.YthjhhnolkiejpaaDoor
set_option linter.unusedVariables false
open Go.ChangeShapes Go.WideShapes Go.ChangeAt Go.RowKit

set_option maxHeartbeats 1000000 in
set_option maxRecDepth 100000 in
theorem c_Make0 (h l : Nat) (W : World) :
    Calls Tryd.prog 55 #[.agg #[.int .u64 h, .int .u64 l], .int .u64 0] W fun e w' => ∃ B, e = .returned (.tuple #[.agg #[.int .u64 0, .int .u64 0, .int .u64 0], .iface 124 (.pointer (some ⟨B, 0, none⟩))]) ∧ w'.cell? ⟨B, 2, none⟩ = some (.iface 101 (.int .i64 1)) ∧ Gr W w' := by
  go_enter Tryd.func55, Tryd.ntmps55
  go_wp2_with fail
  refine bodyPost_ret (v := .tuple #[.agg #[.int .u64 0, .int .u64 0, .int .u64 0], .iface 124 (.pointer (some ⟨W.heap.size + 1 + 1, 0, none⟩))]) (by simp [results, Tryd.results55, go_sem, *]) rfl ⟨_, rfl, by go_simp, by go_grown⟩
set_option maxHeartbeats 1000000 in
set_option maxRecDepth 100000 in
theorem c_Code_fault (b : Nat) (w : World) (hc : w.cell? ⟨b, 2, none⟩ = some (.iface 101 (.int .i64 1))) : Calls Tryd.prog 85 #[.iface 124 (.pointer (some ⟨b, 0, none⟩))] w fun e w' => e = .returned (.int .i64 1) ∧ Gr w w' := by
  have I1 : Calls Tryd.prog 58 #[.iface 124 (.pointer (some ⟨b, 0, none⟩)), .iface 101 (.int .i64 1)] w fun e w' => e = .returned (.bool true) ∧ Gr w w' := c_Is_fault b 1 1 w hc
  have H1 := Lib.hid I1
  clear I1
  go_enter Tryd.func85, Tryd.ntmps85
  go_wp2_with fail
  refine wp_loop_rounds 1 ?_
  rw [rounds_succ]
  go_wp2_with fail
  go_at_call 58
  refine (H1.out).mono ?_
  rintro e w1 ⟨rfl, hg⟩
  go_wp2_with fail
  go_ret
  exact ⟨rfl, hg⟩
theorem low_pos (n d : Nat) (hd : 0 < d) : 0 < lowD n d := by
  unfold lowD
  exact Nat.div_pos (Nat.le_of_dvd hd (Nat.gcd_dvd_left d (n % d))) (Nat.gcd_pos_of_pos_left _ hd)
end Go.Proofs.YthjhhnolkiejpaaDoor
