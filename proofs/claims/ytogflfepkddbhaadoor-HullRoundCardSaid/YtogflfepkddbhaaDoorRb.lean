/- ratio: Compare, Less, Text; what the document fixes -/
import Derived.Test.YtogflfepkddbhaaDoorRj
import Derived.Test.YtogflfepkddbhaaDoorH
namespace Go.Proofs.YtogflfepkddbhaaDoor
set_option linter.unusedVariables false
open Go.ChangeShapes Go.WideShapes Go.ChangeAt Go.RowKit

/-- Compare's answer. -/
def cmpD (va da vb db : Nat) : Int := if da = 0 then (if db = 0 then 0 else 1) else (if db = 0 then -1 else cmpN (va * db) (vb * da))
theorem c_cmpInt2 (a b : Int) (w : World) :
    Calls Tryd.prog 29 #[.int .i64 a, .int .i64 b] w fun e w' => e = .returned (.int .i64 (if a < b then -1 else if b < a then 1 else 0)) ∧ Gr w w' := by
  rcases Int.lt_trichotomy a b with h | h | h
  · rw [if_pos h]
    have h2 : ¬ b < a := by omega
    go_enter Tryd.func29, Tryd.ntmps29
    go_wp2
    go_ret
    exact ⟨rfl, by go_grown⟩
  · subst h
    rw [if_neg (by omega), if_neg (by omega)]
    go_enter Tryd.func29, Tryd.ntmps29
    go_wp2
    go_ret
    exact ⟨rfl, by go_grown⟩
  · rw [if_neg (by omega), if_pos h]
    have h2 : ¬ a < b := by omega
    go_enter Tryd.func29, Tryd.ntmps29
    go_wp2
    go_ret
    exact ⟨rfl, by go_grown⟩
set_option maxRecDepth 100000 in
theorem c_Is_nil (k : Int) (w : World) : Calls Tryd.prog 63 #[.nilIface, .iface 78 (.int .i64 k)] w fun e w' => e = .returned (.bool false) ∧ Gr w w' := by
  have hb : ∀ w, (binOp .eql 26 .nilIface (.iface 78 (.int .i64 k))).run Tryd.prog w = .ok (.bool false) w := fun _ => rfl
  go_enter Tryd.func63, Tryd.ntmps63
  go_wp2_with fail
  go_ret
  exact ⟨rfl, by go_grown⟩
/-- How two that are near stand. -/
def lessB (va da vb db : Nat) (i j : Int) : Bool := decide ((if cmpD va da vb db = 0 then (if i < j then -1 else if j < i then 1 else 0) else cmpD va da vb db) < 0)
/-- What Text writes. -/
def txt (n d : Nat) : List UInt8 := if lowD n d = 1 then Lib.decDigits (lowN n d) else Lib.decDigits (lowN n d) ++ (47 :: Lib.decDigits (lowD n d))
end Go.Proofs.YtogflfepkddbhaaDoor
