/- errors.Is, at the errors of this program; errors.As, at this program's Fault; an error held against a number, an op and an id -/
import Derived.Test.YtilijbplfobneaaK
import Derived.Stop.Asserts
import Derived.LaidEql
import Derived.RowKitTokens
import Derived.Deep.LoopGhost
namespace Go.Proofs.Ytilijbplfobneaa
set_option linter.unusedVariables false
open Go.ChangeShapes Go.WideShapes Go.ChangeAt Go.RowKit

theorem is_eql (i k : Int) (w : World) : (binOp .eql 26 (.iface 46 (.int .i64 i)) (.iface 46 (.int .i64 k))).run Try.prog w = .ok (.bool (i == k)) w := by kernel_rfl

end Go.Proofs.Ytilijbplfobneaa
namespace Go.Proofs.Ytilijbplfobneaa
set_option linter.unusedVariables false
open Go.ChangeShapes Go.WideShapes Go.ChangeAt Go.RowKit Go.Extern.Stop Go.Stop Go.Extern

theorem as_kindF (w : World) : ((ReflectliteType.abiMethod fun t => (fun a : Nat => Value.int IntKind.u8 (a : Int)) <$> Rtype.kind t) #[.pointer (some ⟨Try.prog.globals.size, 55, none⟩)]).run Try.prog w = .ok (.int .u8 22) w := by kernel_rfl
theorem as_rlm (z : Sem Value) (f : TypeId → Addr → Nat → Nat → Sem Value) (v : Value) :
    ReflectliteValue.method z f #[v] = (do match ← ReflectliteValue.parts v with | none => z | some (t, a, fl) => f t a fl (fl % 32)) := rfl
theorem as_valueOfF (e : Addr) (w : World) : (ReflectliteValue.unpack (.iface 55 (.pointer (some e)))).run Try.prog w
    = .ok (.agg #[.pointer (some ⟨Try.prog.globals.size, 55, none⟩), .pointer (some ⟨w.heap.size, 0, none⟩), .int .u64 150]) (w.alloc (.cells #[.pointer (some e)] 55)) := by kernel_rfl
theorem as_mkF (p : Addr) (w : World) : (ReflectliteValue.mk 55 p ReflectliteValue.flagAddr).run Try.prog w = .ok (.agg #[.pointer (some ⟨Try.prog.globals.size, 55, none⟩), .pointer (some p), .int .u64 406]) w := by kernel_rfl
theorem as_rls (v x : Value) : ReflectliteValue.set #[v, x] = (do
    let (some (dst, a, fl), some (src, b, _)) := (← ReflectliteValue.parts v, ← ReflectliteValue.parts x)
      | unsupported (.noEntry "extern/(internal/reflectlite.Value).Set.zeroValue")
    if fl / ReflectliteValue.flagAddr % 2 == 0 then unsupported (.noEntry "extern/(internal/reflectlite.Value).Set.unaddressable")
    let val ← loadVar src b
    if ← Rtype.directlyAssignable dst src then storeVar dst a val
    else if ← Rtype.implements dst src then
      if (← Rtype.kind src) == 20 then
        match val with
        | .nilIface => unsupported (.noEntry "extern/reflectlite: a nil value of one interface type handed on as a value of another")
        | _ => storeVar dst a val
      else storeVar dst a (.iface src val)
    else panicString ("reflectlite.Set: value of type " ++ (← Rtype.spelt src) ++ " is not assignable to type " ++ (← Rtype.spelt dst))
    pure (.tuple #[])) := rfl
theorem as_partsFa (a : Addr) (w : World) : (ReflectliteValue.parts (.agg #[.pointer (some ⟨Try.prog.globals.size, 55, none⟩), .pointer (some a), .int .u64 406])).run Try.prog w = .ok (some (55, a, 406)) w := by kernel_rfl
theorem as_partsF (a : Addr) (w : World) : (ReflectliteValue.parts (.agg #[.pointer (some ⟨Try.prog.globals.size, 55, none⟩), .pointer (some a), .int .u64 150])).run Try.prog w = .ok (some (55, a, 150)) w := by kernel_rfl
theorem as_directF (w : World) : (Rtype.directlyAssignable 55 55).run Try.prog w = .ok true w := by kernel_rfl
/-- The variable at 'ta' gets what the Value's own one holds. -/
theorem as_setF (ta b e : Addr) (old : Value) (W : World) (hb : W.cell? b = some (.pointer (some e))) (ht : W.cell? ta = some old) (hf : W.frozen? ta = false) :
    (ReflectliteValue.set #[.agg #[.pointer (some ⟨Try.prog.globals.size, 55, none⟩), .pointer (some ta), .int .u64 406], .agg #[.pointer (some ⟨Try.prog.globals.size, 55, none⟩), .pointer (some b), .int .u64 150]]).run Try.prog W
      = .ok (.tuple #[]) (W.setCell ta (.pointer (some e))) := by
  rw [as_rls]
  simp only [Sem.run_bind, as_partsFa, as_partsF, Result.andThen]
  simp [ReflectliteValue.flagAddr, loadVar, isAgg, underlying, Try.underlying55, hb, Result.andThen, as_directF, storeVar, Value.cells, storeCells, Addr.add]
  rw [run_store Try.prog W ta _ _ (by rfl)]
  simp [ht, hf]

end Go.Proofs.Ytilijbplfobneaa
namespace Go.Proofs.Ytilijbplfobneaa
set_option linter.unusedVariables false
open Go.ChangeShapes Go.WideShapes Go.ChangeAt Go.RowKit

/-- A Fault that wraps a number. -/
def FaultAt (w : World) (b : Nat) (op : ByteArray) (id k : Int) : Prop := w.cell? ⟨b, 0, none⟩ = some (.string op) ∧ w.cell? ⟨b, 1, none⟩ = some (.int .i64 id) ∧ w.cell? ⟨b, 2, none⟩ = some (.iface 46 (.int .i64 k))
theorem faultAt_gr {a b : World} {B : Nat} {op : ByteArray} {id k : Int} (h : FaultAt a B op id k) (g : Gr a b) : FaultAt b B op id k := ⟨cell_gr g h.1, cell_gr g h.2.1, cell_gr g h.2.2⟩

end Go.Proofs.Ytilijbplfobneaa
