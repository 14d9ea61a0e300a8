/- errors.Is, at the errors of this program -/
import Derived.Test.YtffobfjjbcdbdaaK
import Derived.Stop.Asserts
namespace Go.Proofs.Ytffobfjjbcdbdaa
set_option linter.unusedVariables false
open Go.ChangeShapes Go.WideShapes Go.ChangeAt Go.RowKit

theorem is_typeOf (v : Value) (w : World) : (callFunc 59 #[.iface 67 v]).run Try.prog w = .ok (.value (.iface 102 (.agg #[.pointer (some ⟨Try.prog.globals.size, 67, none⟩)]))) w := by
  rw [@run_callFunc_extern Try.prog 59 _ Extern.ReflectliteType.typeOf Try.func59 (by kernel_rfl) (by kernel_rfl) (by kernel_rfl) (by kernel_rfl)]
  kernel_rfl
theorem is_comparable (w : World) : (callFunc 91 #[.agg #[.pointer (some ⟨Try.prog.globals.size, 67, none⟩)]]).run Try.prog w = .ok (.value (.bool true)) w := by
  rw [@run_callFunc_extern Try.prog 91 _ (Extern.ReflectliteType.method fun t => do Extern.Rtype.noPackHeld "Comparable" t; pure (.bool (← typeInfo t).comparable)) Try.func91 (by kernel_rfl) (by kernel_rfl) (by kernel_rfl) (by kernel_rfl)]
  kernel_rfl
theorem is_noIs (v : Value) (xT : TypeId) (w : World) : (Instr.typeAssert (.iface 67 v) xT 104 true).run Try.prog w = .ok (.tuple #[.nilIface, .bool false]) w := run_typeAssert_lacksB Try.underlying104 (by kernel_rfl) (by kernel_rfl) v xT w
theorem is_noUnwrap (v : Value) (xT : TypeId) (w : World) : (Instr.typeAssert (.iface 67 v) xT 106 true).run Try.prog w = .ok (.tuple #[.nilIface, .bool false]) w := run_typeAssert_lacksB Try.underlying106 (by kernel_rfl) (by kernel_rfl) v xT w
theorem is_noUnwraps (v : Value) (xT : TypeId) (w : World) : (Instr.typeAssert (.iface 67 v) xT 108 true).run Try.prog w = .ok (.tuple #[.nilIface, .bool false]) w := run_typeAssert_lacksB Try.underlying108 (by kernel_rfl) (by kernel_rfl) v xT w
theorem is_eql (i k : Int) (w : World) : (binOp .eql 27 (.iface 67 (.int .i64 i)) (.iface 67 (.int .i64 k))).run Try.prog w = .ok (.bool (i == k)) w := by kernel_rfl

set_option maxHeartbeats 1000000 in
set_option maxRecDepth 100000 in
theorem c_Is_errno (i k : Int) (w : World) : Calls Try.prog 42 #[.iface 67 (.int .i64 i), .iface 67 (.int .i64 k)] w fun e w' => e = .returned (.bool (decide (i = k))) ∧ Gr w w' := by
  have tT := is_typeOf (.int .i64 k)
  have cT := is_comparable
  generalize Try.prog.globals.size = n at tT cT
  have nI := is_noIs
  have nU := is_noUnwrap
  have nV := is_noUnwraps
  have heq := is_eql i k
  by_cases h : i = k
  · have e : (i == k) = true := by simpa using h
    rw [e] at heq
    rw [decide_eq_true h]
    clear h e
    go_enter Try.func42, Try.ntmps42
    go_wp2
    refine wp_loop_rounds 1 ?_
    rw [rounds_succ]
    go_wp2
    go_ret
    exact ⟨rfl, by go_grown⟩
  · have e : (i == k) = false := by simpa using h
    rw [e] at heq
    rw [decide_eq_false h]
    clear h e
    go_enter Try.func42, Try.ntmps42
    go_wp2
    refine wp_loop_rounds 1 ?_
    rw [rounds_succ]
    go_wp2
    go_ret
    exact ⟨rfl, by go_grown⟩

end Go.Proofs.Ytffobfjjbcdbdaa
