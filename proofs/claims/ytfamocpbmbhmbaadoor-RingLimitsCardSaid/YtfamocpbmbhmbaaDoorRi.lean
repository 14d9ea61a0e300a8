/- errors.Is, at the errors of this program -/
import Derived.Test.YtfamocpbmbhmbaaDoorK
import Derived.Stop.Asserts
namespace Go.Proofs.YtfamocpbmbhmbaaDoor
set_option linter.unusedVariables false
open Go.ChangeShapes Go.WideShapes Go.ChangeAt Go.RowKit

theorem is_typeOf (v : Value) (w : World) : (callFunc 68 #[.iface 69 v]).run Tryd.prog w = .ok (.value (.iface 102 (.agg #[.pointer (some ⟨Tryd.prog.globals.size, 69, none⟩)]))) w := by
  rw [@run_callFunc_extern Tryd.prog 68 _ Extern.ReflectliteType.typeOf Tryd.func68 (by kernel_rfl) (by kernel_rfl) (by kernel_rfl) (by kernel_rfl)]
  kernel_rfl
theorem is_comparable (w : World) : (callFunc 109 #[.agg #[.pointer (some ⟨Tryd.prog.globals.size, 69, none⟩)]]).run Tryd.prog w = .ok (.value (.bool true)) w := by
  rw [@run_callFunc_extern Tryd.prog 109 _ (Extern.ReflectliteType.method fun t => do Extern.Rtype.noPackHeld "Comparable" t; pure (.bool (← typeInfo t).comparable)) Tryd.func109 (by kernel_rfl) (by kernel_rfl) (by kernel_rfl) (by kernel_rfl)]
  kernel_rfl
theorem is_noIs (v : Value) (xT : TypeId) (w : World) : (Instr.typeAssert (.iface 69 v) xT 118 true).run Tryd.prog w = .ok (.tuple #[.nilIface, .bool false]) w := run_typeAssert_lacksB Tryd.underlying118 (by kernel_rfl) (by kernel_rfl) v xT w
theorem is_noUnwrap (v : Value) (xT : TypeId) (w : World) : (Instr.typeAssert (.iface 69 v) xT 109 true).run Tryd.prog w = .ok (.tuple #[.nilIface, .bool false]) w := run_typeAssert_lacksB Tryd.underlying109 (by kernel_rfl) (by kernel_rfl) v xT w
theorem is_noUnwraps (v : Value) (xT : TypeId) (w : World) : (Instr.typeAssert (.iface 69 v) xT 111 true).run Tryd.prog w = .ok (.tuple #[.nilIface, .bool false]) w := run_typeAssert_lacksB Tryd.underlying111 (by kernel_rfl) (by kernel_rfl) v xT w
theorem is_eql (i k : Int) (w : World) : (binOp .eql 32 (.iface 69 (.int .i64 i)) (.iface 69 (.int .i64 k))).run Tryd.prog w = .ok (.bool (i == k)) w := by kernel_rfl

set_option maxHeartbeats 1000000 in
set_option maxRecDepth 100000 in
theorem c_Is_errno (i k : Int) (w : World) : Calls Tryd.prog 49 #[.iface 69 (.int .i64 i), .iface 69 (.int .i64 k)] w fun e w' => e = .returned (.bool (decide (i = k))) ∧ Gr w w' := by
  have tT := is_typeOf (.int .i64 k)
  have cT := is_comparable
  generalize Tryd.prog.globals.size = n at tT cT
  have nI := is_noIs
  have nU := is_noUnwrap
  have nV := is_noUnwraps
  have heq := is_eql i k
  by_cases h : i = k
  · have e : (i == k) = true := by simpa using h
    rw [e] at heq
    rw [decide_eq_true h]
    clear h e
    go_enter Tryd.func49, Tryd.ntmps49
    go_wp2
    refine wp_loop_rounds 1 ?_
    rw [rounds_succ]
    go_wp2
    go_ret
    exact ⟨rfl, by go_grown⟩
  · have e : (i == k) = false := by simpa using h
    rw [e] at heq
    rw [decide_eq_false h]
    clear h e
    go_enter Tryd.func49, Tryd.ntmps49
    go_wp2
    refine wp_loop_rounds 1 ?_
    rw [rounds_succ]
    go_wp2
    go_ret
    exact ⟨rfl, by go_grown⟩

theorem isF_noIs (v : Value) (xT : TypeId) (w : World) : (Instr.typeAssert (.iface 63 v) xT 118 true).run Tryd.prog w = .ok (.tuple #[.nilIface, .bool false]) w := run_typeAssert_lacksB Tryd.underlying118 (by kernel_rfl) (by kernel_rfl) v xT w
theorem isF_hasUnwrap (v : Value) (xT : TypeId) (w : World) : (Instr.typeAssert (.iface 63 v) xT 109 true).run Tryd.prog w = .ok (.tuple #[.iface 63 v, .bool true]) w := run_typeAssert_hasB Tryd.underlying109 (by kernel_rfl) v xT w
set_option maxHeartbeats 2000000 in
set_option maxRecDepth 100000 in
theorem c_Is_fault (b : Nat) (i k : Int) (w : World) (hc : w.cell? ⟨b, 2, none⟩ = some (.iface 69 (.int .i64 i))) : Calls Tryd.prog 49 #[.iface 63 (.pointer (some ⟨b, 0, none⟩)), .iface 69 (.int .i64 k)] w fun e w' => e = .returned (.bool (decide (i = k))) ∧ Gr w w' := by
  have tT := is_typeOf (.int .i64 k)
  have cT := is_comparable
  generalize Tryd.prog.globals.size = n at tT cT
  have nI := is_noIs
  have nU := is_noUnwrap
  have nV := is_noUnwraps
  have fI := isF_noIs
  have fU := isF_hasUnwrap
  have heq := is_eql i k
  have hty := run_eql_iface_types (P := Tryd.prog) 63 69 (.pointer (some ⟨b, 0, none⟩)) (.int .i64 k) Tryd.underlying32 (by decide)
  by_cases h : i = k
  · have e : (i == k) = true := by simpa using h
    rw [e] at heq
    rw [decide_eq_true h]
    clear h e
    go_enter Tryd.func49, Tryd.ntmps49
    go_wp2
    refine wp_loop_rounds 2 ?_
    rw [rounds_succ]
    go_wp2
    rw [rounds_succ]
    go_wp2
    go_ret
    exact ⟨rfl, by go_grown⟩
  · have e : (i == k) = false := by simpa using h
    rw [e] at heq
    rw [decide_eq_false h]
    clear h e
    go_enter Tryd.func49, Tryd.ntmps49
    go_wp2
    refine wp_loop_rounds 2 ?_
    rw [rounds_succ]
    go_wp2
    rw [rounds_succ]
    go_wp2
    go_ret
    exact ⟨rfl, by go_grown⟩
end Go.Proofs.YtfamocpbmbhmbaaDoor
