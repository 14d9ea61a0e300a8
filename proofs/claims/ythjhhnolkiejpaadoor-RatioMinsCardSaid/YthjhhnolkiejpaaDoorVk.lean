/- RatioMins: what is left out -/
import Derived.Test.YthjhhnolkiejpaaDoorVi
namespace Go.Proofs.YthjhhnolkiejpaaDoor
set_option linter.unusedVariables false
open Go.ChangeShapes Go.WideShapes Go.ChangeAt Go.RowKit

set_option maxHeartbeats 4000000 in
set_option maxRecDepth 100000 in
theorem mins_early (a a' : Option Addr) (n cap m cap' : Nat) (W : World) (hp : Lib.TabIs Tryd.prog W "internal/strconv.uint64pow10" .u64 Lib.pow10Tab) (h : n = 0 ∨ m = 0 ∨ 60 < n ∨ 60 < m) :
    Calls Tryd.prog 7 #[.slice a n cap, .slice a' m cap'] W fun e w' => e = .returned (.bool true) ∧ Gr W w' := by
  have A := p2_awake W hp
  have H1 := Lib.hid A
  clear A hp
  by_cases h1 : n = 0
  · have t1 : ((n : Int) == 0) = true := by simp; omega
    have t2 : (n == 0) = true := by simp; omega
    clear h h1
    go_enter Tryd.func7, Tryd.ntmps7
    go_wp2_with fail
    go_at_call 25
    refine ((H1.out)).mono ?_
    rintro e w5 ⟨rfl, hw5⟩
    have gw5 : Gr W w5 := Gr.trans (by go_grown) hw5
    clear hw5
    go_wp2_with fail
    go_ret
    exact ⟨rfl, by go_grown⟩
  have t1 : ((n : Int) == 0) = false := by simp; omega
  have t2 : (n == 0) = false := by simp; omega
  by_cases h2 : m = 0
  · have t3 : ((m : Int) == 0) = true := by simp; omega
    have t4 : (m == 0) = true := by simp; omega
    clear h h1 h2
    go_enter Tryd.func7, Tryd.ntmps7
    go_wp2_with fail
    go_at_call 25
    refine ((H1.out)).mono ?_
    rintro e w5 ⟨rfl, hw5⟩
    have gw5 : Gr W w5 := Gr.trans (by go_grown) hw5
    clear hw5
    go_wp2_with fail
    go_ret
    exact ⟨rfl, by go_grown⟩
  have t3 : ((m : Int) == 0) = false := by simp; omega
  have t4 : (m == 0) = false := by simp; omega
  by_cases h3 : 60 < n
  · have t5 : decide ((60 : Int) < (n : Int)) = true := decide_eq_true (by omega)
    have t6 : decide (60 < n) = true := decide_eq_true h3
    clear h h1 h2 h3
    go_enter Tryd.func7, Tryd.ntmps7
    go_wp2_with fail
    go_at_call 25
    refine ((H1.out)).mono ?_
    rintro e w5 ⟨rfl, hw5⟩
    have gw5 : Gr W w5 := Gr.trans (by go_grown) hw5
    clear hw5
    go_wp2_with fail
    go_ret
    exact ⟨rfl, by go_grown⟩
  have t5 : decide ((60 : Int) < (n : Int)) = false := decide_eq_false (by omega)
  have t6 : decide (60 < n) = false := decide_eq_false h3
  have h4 : 60 < m := by omega
  have t7 : decide ((60 : Int) < (m : Int)) = true := decide_eq_true (by omega)
  have t8 : decide (60 < m) = true := decide_eq_true h4
  clear h h1 h2 h3 h4
  go_enter Tryd.func7, Tryd.ntmps7
  go_wp2_with fail
  go_at_call 25
  refine ((H1.out)).mono ?_
  rintro e w5 ⟨rfl, hw5⟩
  have gw5 : Gr W w5 := Gr.trans (by go_grown) hw5
  clear hw5
  go_wp2_with fail
  go_ret
  exact ⟨rfl, by go_grown⟩
end Go.Proofs.YthjhhnolkiejpaaDoor
