/- errors.Is, at the errors of this program; errors.As, at this program's Fault; an error held against a number, an op and an id -/
import Derived.Test.YtgmmhddlfalehaaK
import Derived.Stop.Asserts
import Derived.LaidEql
import Derived.RowKitTokens
import Derived.Deep.LoopGhost
namespace Go.Proofs.Ytgmmhddlfalehaa
set_option linter.unusedVariables false
open Go.ChangeShapes Go.WideShapes Go.ChangeAt Go.RowKit

theorem is_typeOf (v : Value) (w : World) : (callFunc 31 #[.iface 30 v]).run Try.prog w = .ok (.value (.iface 87 (.agg #[.pointer (some ⟨Try.prog.globals.size, 30, none⟩)]))) w := by
  rw [@run_callFunc_extern Try.prog 31 _ Extern.ReflectliteType.typeOf Try.func31 (by kernel_rfl) (by kernel_rfl) (by kernel_rfl) (by kernel_rfl)]
  kernel_rfl
theorem is_comparable (w : World) : (callFunc 67 #[.agg #[.pointer (some ⟨Try.prog.globals.size, 30, none⟩)]]).run Try.prog w = .ok (.value (.bool true)) w := by
  rw [@run_callFunc_extern Try.prog 67 _ (Extern.ReflectliteType.method fun t => do Extern.Rtype.noPackHeld "Comparable" t; pure (.bool (← typeInfo t).comparable)) Try.func67 (by kernel_rfl) (by kernel_rfl) (by kernel_rfl) (by kernel_rfl)]
  kernel_rfl
theorem is_noIs (v : Value) (xT : TypeId) (w : World) : (Instr.typeAssert (.iface 30 v) xT 89 true).run Try.prog w = .ok (.tuple #[.nilIface, .bool false]) w := run_typeAssert_lacksB Try.underlying89 (by kernel_rfl) (by kernel_rfl) v xT w
theorem is_noUnwrap (v : Value) (xT : TypeId) (w : World) : (Instr.typeAssert (.iface 30 v) xT 91 true).run Try.prog w = .ok (.tuple #[.nilIface, .bool false]) w := run_typeAssert_lacksB Try.underlying91 (by kernel_rfl) (by kernel_rfl) v xT w
theorem is_noUnwraps (v : Value) (xT : TypeId) (w : World) : (Instr.typeAssert (.iface 30 v) xT 93 true).run Try.prog w = .ok (.tuple #[.nilIface, .bool false]) w := run_typeAssert_lacksB Try.underlying93 (by kernel_rfl) (by kernel_rfl) v xT w
theorem is_eql (i k : Int) (w : World) : (binOp .eql 28 (.iface 30 (.int .i64 i)) (.iface 30 (.int .i64 k))).run Try.prog w = .ok (.bool (i == k)) w := by kernel_rfl

set_option maxHeartbeats 1000000 in
set_option maxRecDepth 100000 in
theorem c_Is_errno (i k : Int) (w : World) : Calls Try.prog 22 #[.iface 30 (.int .i64 i), .iface 30 (.int .i64 k)] w fun e w' => e = .returned (.bool (decide (i = k))) ∧ Gr w w' := by
  have tT := is_typeOf (.int .i64 k)
  have cT := is_comparable
  generalize Try.prog.globals.size = n at tT cT
  have nI := is_noIs
  have nU := is_noUnwrap
  have nV := is_noUnwraps
  have heq := is_eql i k
  by_cases h : i = k
  · have e : (i == k) = true := by simpa using h
    rw [e] at heq
    rw [decide_eq_true h]
    clear h e
    go_enter Try.func22, Try.ntmps22
    go_wp2
    refine wp_loop_rounds 1 ?_
    rw [rounds_succ]
    go_wp2
    go_ret
    exact ⟨rfl, by go_grown⟩
  · have e : (i == k) = false := by simpa using h
    rw [e] at heq
    rw [decide_eq_false h]
    clear h e
    go_enter Try.func22, Try.ntmps22
    go_wp2
    refine wp_loop_rounds 1 ?_
    rw [rounds_succ]
    go_wp2
    go_ret
    exact ⟨rfl, by go_grown⟩

theorem isF_noIs (v : Value) (xT : TypeId) (w : World) : (Instr.typeAssert (.iface 33 v) xT 89 true).run Try.prog w = .ok (.tuple #[.nilIface, .bool false]) w := run_typeAssert_lacksB Try.underlying89 (by kernel_rfl) (by kernel_rfl) v xT w
theorem isF_hasUnwrap (v : Value) (xT : TypeId) (w : World) : (Instr.typeAssert (.iface 33 v) xT 91 true).run Try.prog w = .ok (.tuple #[.iface 33 v, .bool true]) w := run_typeAssert_hasB Try.underlying91 (by kernel_rfl) v xT w
set_option maxHeartbeats 2000000 in
set_option maxRecDepth 100000 in
theorem c_Is_fault (b : Nat) (i k : Int) (w : World) (hc : w.cell? ⟨b, 2, none⟩ = some (.iface 30 (.int .i64 i))) : Calls Try.prog 22 #[.iface 33 (.pointer (some ⟨b, 0, none⟩)), .iface 30 (.int .i64 k)] w fun e w' => e = .returned (.bool (decide (i = k))) ∧ Gr w w' := by
  have tT := is_typeOf (.int .i64 k)
  have cT := is_comparable
  generalize Try.prog.globals.size = n at tT cT
  have nI := is_noIs
  have nU := is_noUnwrap
  have nV := is_noUnwraps
  have fI := isF_noIs
  have fU := isF_hasUnwrap
  have heq := is_eql i k
  have hty := run_eql_iface_types (P := Try.prog) 33 30 (.pointer (some ⟨b, 0, none⟩)) (.int .i64 k) Try.underlying28 (by decide)
  by_cases h : i = k
  · have e : (i == k) = true := by simpa using h
    rw [e] at heq
    rw [decide_eq_true h]
    clear h e
    go_enter Try.func22, Try.ntmps22
    go_wp2
    refine wp_loop_rounds 2 ?_
    rw [rounds_succ]
    go_wp2
    rw [rounds_succ]
    go_wp2
    go_ret
    exact ⟨rfl, by go_grown⟩
  · have e : (i == k) = false := by simpa using h
    rw [e] at heq
    rw [decide_eq_false h]
    clear h e
    go_enter Try.func22, Try.ntmps22
    go_wp2
    refine wp_loop_rounds 2 ?_
    rw [rounds_succ]
    go_wp2
    rw [rounds_succ]
    go_wp2
    go_ret
    exact ⟨rfl, by go_grown⟩
end Go.Proofs.Ytgmmhddlfalehaa
namespace Go.Proofs.Ytgmmhddlfalehaa
set_option linter.unusedVariables false
open Go.ChangeShapes Go.WideShapes Go.ChangeAt Go.RowKit Go.Extern.Stop Go.Stop Go.Extern

theorem as_methodKind (n : Nat) (h : Value) (w : World) : (Go.method (n + 1) 87 (.agg #[h]) "Kind").run Try.prog w = .ok (64, h) w := by kernel_rfl
theorem as_kindF (w : World) : ((ReflectliteType.abiMethod fun t => (fun a : Nat => Value.int IntKind.u8 (a : Int)) <$> Rtype.kind t) #[.pointer (some ⟨Try.prog.globals.size, 33, none⟩)]).run Try.prog w = .ok (.int .u8 22) w := by kernel_rfl
theorem as_rlm (z : Sem Value) (f : TypeId → Addr → Nat → Nat → Sem Value) (v : Value) :
    ReflectliteValue.method z f #[v] = (do match ← ReflectliteValue.parts v with | none => z | some (t, a, fl) => f t a fl (fl % 32)) := rfl
theorem as_methodElem (n : Nat) (h : Value) (w : World) : (Go.method (n + 1) 87 (.agg #[h]) "Elem").run Try.prog w = .ok (68, .agg #[h]) w := by kernel_rfl
theorem as_methodImplements (n : Nat) (h : Value) (w : World) : (Go.method (n + 1) 87 (.agg #[h]) "Implements").run Try.prog w = .ok (69, .agg #[h]) w := by kernel_rfl
theorem as_methodAssignableTo (n : Nat) (h : Value) (w : World) : (Go.method (n + 1) 87 (.agg #[h]) "AssignableTo").run Try.prog w = .ok (66, .agg #[h]) w := by kernel_rfl
theorem as_implementsF (w : World) : (ReflectliteType.relation "Implements" ReflectliteType.implements_ #[.agg #[.pointer (some ⟨Try.prog.globals.size, 33, none⟩)], .iface 87 (.agg #[.pointer (some ⟨Try.prog.globals.size, 28, none⟩)])]).run Try.prog w = .ok (.bool true) w := by kernel_rfl
theorem as_typeOfF (v : Value) (w : World) : (ReflectliteType.typeOf #[.iface 33 v]).run Try.prog w = .ok (.iface 87 (.agg #[.pointer (some ⟨Try.prog.globals.size, 33, none⟩)])) w := by kernel_rfl
theorem as_assignableF (w : World) : (ReflectliteType.relation "AssignableTo" ReflectliteType.assignableTo #[.agg #[.pointer (some ⟨Try.prog.globals.size, 33, none⟩)], .iface 87 (.agg #[.pointer (some ⟨Try.prog.globals.size, 33, none⟩)])]).run Try.prog w = .ok (.bool true) w := by kernel_rfl
theorem as_valueOfF (e : Addr) (w : World) : (ReflectliteValue.unpack (.iface 33 (.pointer (some e)))).run Try.prog w
    = .ok (.agg #[.pointer (some ⟨Try.prog.globals.size, 33, none⟩), .pointer (some ⟨w.heap.size, 0, none⟩), .int .u64 150]) (w.alloc (.cells #[.pointer (some e)] 33)) := by kernel_rfl
theorem as_mkF (p : Addr) (w : World) : (ReflectliteValue.mk 33 p ReflectliteValue.flagAddr).run Try.prog w = .ok (.agg #[.pointer (some ⟨Try.prog.globals.size, 33, none⟩), .pointer (some p), .int .u64 406]) w := by kernel_rfl
theorem as_rls (v x : Value) : ReflectliteValue.set #[v, x] = (do
    let (some (dst, a, fl), some (src, b, _)) := (← ReflectliteValue.parts v, ← ReflectliteValue.parts x)
      | unsupported (.noEntry "extern/(internal/reflectlite.Value).Set.zeroValue")
    if fl / ReflectliteValue.flagAddr % 2 == 0 then unsupported (.noEntry "extern/(internal/reflectlite.Value).Set.unaddressable")
    let val ← loadVar src b
    if ← Rtype.directlyAssignable dst src then storeVar dst a val
    else if ← Rtype.implements dst src then
      if (← Rtype.kind src) == 20 then
        match val with
        | .nilIface => unsupported (.noEntry "extern/reflectlite: a nil value of one interface type handed on as a value of another")
        | _ => storeVar dst a val
      else storeVar dst a (.iface src val)
    else panicString ("reflectlite.Set: value of type " ++ (← Rtype.spelt src) ++ " is not assignable to type " ++ (← Rtype.spelt dst))
    pure (.tuple #[])) := rfl
theorem as_partsFa (a : Addr) (w : World) : (ReflectliteValue.parts (.agg #[.pointer (some ⟨Try.prog.globals.size, 33, none⟩), .pointer (some a), .int .u64 406])).run Try.prog w = .ok (some (33, a, 406)) w := by kernel_rfl
theorem as_partsF (a : Addr) (w : World) : (ReflectliteValue.parts (.agg #[.pointer (some ⟨Try.prog.globals.size, 33, none⟩), .pointer (some a), .int .u64 150])).run Try.prog w = .ok (some (33, a, 150)) w := by kernel_rfl
theorem as_directF (w : World) : (Rtype.directlyAssignable 33 33).run Try.prog w = .ok true w := by kernel_rfl
/-- The variable at 'ta' gets what the Value's own one holds. -/
theorem as_setF (ta b e : Addr) (old : Value) (W : World) (hb : W.cell? b = some (.pointer (some e))) (ht : W.cell? ta = some old) (hf : W.frozen? ta = false) :
    (ReflectliteValue.set #[.agg #[.pointer (some ⟨Try.prog.globals.size, 33, none⟩), .pointer (some ta), .int .u64 406], .agg #[.pointer (some ⟨Try.prog.globals.size, 33, none⟩), .pointer (some b), .int .u64 150]]).run Try.prog W
      = .ok (.tuple #[]) (W.setCell ta (.pointer (some e))) := by
  rw [as_rls]
  simp only [Sem.run_bind, as_partsFa, as_partsF, Result.andThen]
  simp [ReflectliteValue.flagAddr, loadVar, isAgg, underlying, Try.underlying33, hb, Result.andThen, as_directF, storeVar, Value.cells, storeCells, Addr.add]
  rw [run_store Try.prog W ta _ _ (by rfl)]
  simp [ht, hf]

end Go.Proofs.Ytgmmhddlfalehaa
namespace Go.Proofs.Ytgmmhddlfalehaa
set_option linter.unusedVariables false
open Go.ChangeShapes Go.WideShapes Go.ChangeAt Go.RowKit

/-- A Fault that wraps a number. -/
def FaultAt (w : World) (b : Nat) (op : ByteArray) (id k : Int) : Prop := w.cell? ⟨b, 0, none⟩ = some (.string op) ∧ w.cell? ⟨b, 1, none⟩ = some (.int .i64 id) ∧ w.cell? ⟨b, 2, none⟩ = some (.iface 30 (.int .i64 k))
theorem faultAt_gr {a b : World} {B : Nat} {op : ByteArray} {id k : Int} (h : FaultAt a B op id k) (g : Gr a b) : FaultAt b B op id k := ⟨cell_gr g h.1, cell_gr g h.2.1, cell_gr g h.2.2⟩

end Go.Proofs.Ytgmmhddlfalehaa
