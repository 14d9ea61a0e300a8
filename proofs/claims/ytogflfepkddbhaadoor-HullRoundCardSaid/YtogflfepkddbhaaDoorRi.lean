/- errors.Is, at the errors of this program; errors.As, at this program's Fault; an error held against a number, an op and an id -/
import Derived.Test.YtogflfepkddbhaaDoorK
import Derived.Stop.Asserts
import Derived.LaidEql
import Derived.RowKitTokens
import Derived.Deep.LoopGhost
namespace Go.Proofs.YtogflfepkddbhaaDoor
set_option linter.unusedVariables false
open Go.ChangeShapes Go.WideShapes Go.ChangeAt Go.RowKit

theorem is_typeOf (v : Value) (w : World) : (callFunc 89 #[.iface 78 v]).run Tryd.prog w = .ok (.value (.iface 133 (.agg #[.pointer (some ⟨Tryd.prog.globals.size, 78, none⟩)]))) w := by
  rw [@run_callFunc_extern Tryd.prog 89 _ Extern.ReflectliteType.typeOf Tryd.func89 (by kernel_rfl) (by kernel_rfl) (by kernel_rfl) (by kernel_rfl)]
  kernel_rfl
theorem is_comparable (w : World) : (callFunc 129 #[.agg #[.pointer (some ⟨Tryd.prog.globals.size, 78, none⟩)]]).run Tryd.prog w = .ok (.value (.bool true)) w := by
  rw [@run_callFunc_extern Tryd.prog 129 _ (Extern.ReflectliteType.method fun t => do Extern.Rtype.noPackHeld "Comparable" t; pure (.bool (← typeInfo t).comparable)) Tryd.func129 (by kernel_rfl) (by kernel_rfl) (by kernel_rfl) (by kernel_rfl)]
  kernel_rfl
theorem is_noIs (v : Value) (xT : TypeId) (w : World) : (Instr.typeAssert (.iface 78 v) xT 152 true).run Tryd.prog w = .ok (.tuple #[.nilIface, .bool false]) w := run_typeAssert_lacksB Tryd.underlying152 (by kernel_rfl) (by kernel_rfl) v xT w
theorem is_noUnwrap (v : Value) (xT : TypeId) (w : World) : (Instr.typeAssert (.iface 78 v) xT 140 true).run Tryd.prog w = .ok (.tuple #[.nilIface, .bool false]) w := run_typeAssert_lacksB Tryd.underlying140 (by kernel_rfl) (by kernel_rfl) v xT w
theorem is_noUnwraps (v : Value) (xT : TypeId) (w : World) : (Instr.typeAssert (.iface 78 v) xT 142 true).run Tryd.prog w = .ok (.tuple #[.nilIface, .bool false]) w := run_typeAssert_lacksB Tryd.underlying142 (by kernel_rfl) (by kernel_rfl) v xT w
theorem is_eql (i k : Int) (w : World) : (binOp .eql 26 (.iface 78 (.int .i64 i)) (.iface 78 (.int .i64 k))).run Tryd.prog w = .ok (.bool (i == k)) w := by kernel_rfl

set_option maxHeartbeats 1000000 in
set_option maxRecDepth 100000 in
theorem c_Is_errno (i k : Int) (w : World) : Calls Tryd.prog 63 #[.iface 78 (.int .i64 i), .iface 78 (.int .i64 k)] w fun e w' => e = .returned (.bool (decide (i = k))) ∧ Gr w w' := by
  have tT := is_typeOf (.int .i64 k)
  have cT := is_comparable
  generalize Tryd.prog.globals.size = n at tT cT
  have nI := is_noIs
  have nU := is_noUnwrap
  have nV := is_noUnwraps
  have heq := is_eql i k
  by_cases h : i = k
  · have e : (i == k) = true := by simpa using h
    rw [e] at heq
    rw [decide_eq_true h]
    clear h e
    go_enter Tryd.func63, Tryd.ntmps63
    go_wp2
    refine wp_loop_rounds 1 ?_
    rw [rounds_succ]
    go_wp2
    go_ret
    exact ⟨rfl, by go_grown⟩
  · have e : (i == k) = false := by simpa using h
    rw [e] at heq
    rw [decide_eq_false h]
    clear h e
    go_enter Tryd.func63, Tryd.ntmps63
    go_wp2
    refine wp_loop_rounds 1 ?_
    rw [rounds_succ]
    go_wp2
    go_ret
    exact ⟨rfl, by go_grown⟩

theorem isF_noIs (v : Value) (xT : TypeId) (w : World) : (Instr.typeAssert (.iface 72 v) xT 152 true).run Tryd.prog w = .ok (.tuple #[.nilIface, .bool false]) w := run_typeAssert_lacksB Tryd.underlying152 (by kernel_rfl) (by kernel_rfl) v xT w
theorem isF_hasUnwrap (v : Value) (xT : TypeId) (w : World) : (Instr.typeAssert (.iface 72 v) xT 140 true).run Tryd.prog w = .ok (.tuple #[.iface 72 v, .bool true]) w := run_typeAssert_hasB Tryd.underlying140 (by kernel_rfl) v xT w
set_option maxHeartbeats 2000000 in
set_option maxRecDepth 100000 in
theorem c_Is_fault (b : Nat) (i k : Int) (w : World) (hc : w.cell? ⟨b, 2, none⟩ = some (.iface 78 (.int .i64 i))) : Calls Tryd.prog 63 #[.iface 72 (.pointer (some ⟨b, 0, none⟩)), .iface 78 (.int .i64 k)] w fun e w' => e = .returned (.bool (decide (i = k))) ∧ Gr w w' := by
  have tT := is_typeOf (.int .i64 k)
  have cT := is_comparable
  generalize Tryd.prog.globals.size = n at tT cT
  have nI := is_noIs
  have nU := is_noUnwrap
  have nV := is_noUnwraps
  have fI := isF_noIs
  have fU := isF_hasUnwrap
  have heq := is_eql i k
  have hty := run_eql_iface_types (P := Tryd.prog) 72 78 (.pointer (some ⟨b, 0, none⟩)) (.int .i64 k) Tryd.underlying26 (by decide)
  by_cases h : i = k
  · have e : (i == k) = true := by simpa using h
    rw [e] at heq
    rw [decide_eq_true h]
    clear h e
    go_enter Tryd.func63, Tryd.ntmps63
    go_wp2
    refine wp_loop_rounds 2 ?_
    rw [rounds_succ]
    go_wp2
    rw [rounds_succ]
    go_wp2
    go_ret
    exact ⟨rfl, by go_grown⟩
  · have e : (i == k) = false := by simpa using h
    rw [e] at heq
    rw [decide_eq_false h]
    clear h e
    go_enter Tryd.func63, Tryd.ntmps63
    go_wp2
    refine wp_loop_rounds 2 ?_
    rw [rounds_succ]
    go_wp2
    rw [rounds_succ]
    go_wp2
    go_ret
    exact ⟨rfl, by go_grown⟩
end Go.Proofs.YtogflfepkddbhaaDoor
namespace Go.Proofs.YtogflfepkddbhaaDoor
set_option linter.unusedVariables false
open Go.ChangeShapes Go.WideShapes Go.ChangeAt Go.RowKit Go.Extern.Stop Go.Stop Go.Extern

theorem as_valueOfT (t : Addr) (w : World) : (ReflectliteValue.unpack (.iface 74 (.pointer (some t)))).run Tryd.prog w
    = .ok (.agg #[.pointer (some ⟨Tryd.prog.globals.size, 74, none⟩), .pointer (some ⟨w.heap.size, 0, none⟩), .int .u64 150]) (w.alloc (.cells #[.pointer (some t)] 74)) := by kernel_rfl
theorem as_typeT (a : Addr) (w : World) : (ReflectliteValue.methodAny (ReflectliteValue.valueError "reflectlite.Value.Type" 0) (fun t _ _ _ => ReflectliteType.toType t) #[.agg #[.pointer (some ⟨Tryd.prog.globals.size, 74, none⟩), .pointer (some a), .int .u64 150]]).run Tryd.prog w
    = .ok (.iface 133 (.agg #[.pointer (some ⟨Tryd.prog.globals.size, 74, none⟩)])) w := by kernel_rfl
theorem as_methodKind (n : Nat) (h : Value) (w : World) : (Go.method (n + 1) 133 (.agg #[h]) "Kind").run Tryd.prog w = .ok (118, h) w := by kernel_rfl
theorem as_kindT (w : World) : ((ReflectliteType.abiMethod fun t => (fun a : Nat => Value.int IntKind.u8 (a : Int)) <$> Rtype.kind t) #[.pointer (some ⟨Tryd.prog.globals.size, 74, none⟩)]).run Tryd.prog w = .ok (.int .u8 22) w := by kernel_rfl
theorem as_kindF (w : World) : ((ReflectliteType.abiMethod fun t => (fun a : Nat => Value.int IntKind.u8 (a : Int)) <$> Rtype.kind t) #[.pointer (some ⟨Tryd.prog.globals.size, 72, none⟩)]).run Tryd.prog w = .ok (.int .u8 22) w := by kernel_rfl
theorem as_rlm (z : Sem Value) (f : TypeId → Addr → Nat → Nat → Sem Value) (v : Value) :
    ReflectliteValue.method z f #[v] = (do match ← ReflectliteValue.parts v with | none => z | some (t, a, fl) => f t a fl (fl % 32)) := rfl
theorem as_partsT (a : Addr) (w : World) : (ReflectliteValue.parts (.agg #[.pointer (some ⟨Tryd.prog.globals.size, 74, none⟩), .pointer (some a), .int .u64 150])).run Tryd.prog w = .ok (some (74, a, 150)) w := by kernel_rfl
/-- It is not nil. -/
theorem as_isNilT (a p : Addr) (W : World) (ha : W.cell? a = some (.pointer (some p))) :
    (ReflectliteValue.method (ReflectliteValue.valueError "reflectlite.Value.IsNil" 0) ReflectliteValue.isNil #[.agg #[.pointer (some ⟨Tryd.prog.globals.size, 74, none⟩), .pointer (some a), .int .u64 150]]).run Tryd.prog W = .ok (.bool false) W := by
  rw [as_rlm]
  simp only [Sem.run_bind, as_partsT, Result.andThen]
  simp [ReflectliteValue.isNil, loadVar, isAgg, underlying, Tryd.underlying74, ha, Result.andThen]
theorem as_methodElem (n : Nat) (h : Value) (w : World) : (Go.method (n + 1) 133 (.agg #[h]) "Elem").run Tryd.prog w = .ok (130, .agg #[h]) w := by kernel_rfl
theorem as_methodImplements (n : Nat) (h : Value) (w : World) : (Go.method (n + 1) 133 (.agg #[h]) "Implements").run Tryd.prog w = .ok (131, .agg #[h]) w := by kernel_rfl
theorem as_methodAssignableTo (n : Nat) (h : Value) (w : World) : (Go.method (n + 1) 133 (.agg #[h]) "AssignableTo").run Tryd.prog w = .ok (128, .agg #[h]) w := by kernel_rfl
theorem as_elemT (w : World) : (ReflectliteType.method ReflectliteType.elem #[.agg #[.pointer (some ⟨Tryd.prog.globals.size, 74, none⟩)]]).run Tryd.prog w = .ok (.iface 133 (.agg #[.pointer (some ⟨Tryd.prog.globals.size, 72, none⟩)])) w := by kernel_rfl
theorem as_implementsF (w : World) : (ReflectliteType.relation "Implements" ReflectliteType.implements_ #[.agg #[.pointer (some ⟨Tryd.prog.globals.size, 72, none⟩)], .iface 133 (.agg #[.pointer (some ⟨Tryd.prog.globals.size, 26, none⟩)])]).run Tryd.prog w = .ok (.bool true) w := by kernel_rfl
theorem as_typeOfF (v : Value) (w : World) : (ReflectliteType.typeOf #[.iface 72 v]).run Tryd.prog w = .ok (.iface 133 (.agg #[.pointer (some ⟨Tryd.prog.globals.size, 72, none⟩)])) w := by kernel_rfl
theorem as_assignableF (w : World) : (ReflectliteType.relation "AssignableTo" ReflectliteType.assignableTo #[.agg #[.pointer (some ⟨Tryd.prog.globals.size, 72, none⟩)], .iface 133 (.agg #[.pointer (some ⟨Tryd.prog.globals.size, 72, none⟩)])]).run Tryd.prog w = .ok (.bool true) w := by kernel_rfl
theorem as_valueOfF (e : Addr) (w : World) : (ReflectliteValue.unpack (.iface 72 (.pointer (some e)))).run Tryd.prog w
    = .ok (.agg #[.pointer (some ⟨Tryd.prog.globals.size, 72, none⟩), .pointer (some ⟨w.heap.size, 0, none⟩), .int .u64 150]) (w.alloc (.cells #[.pointer (some e)] 72)) := by kernel_rfl
theorem as_elemOfT (w : World) : (Rtype.elem? 74).run Tryd.prog w = .ok (some 72) w := by kernel_rfl
theorem as_mkF (p : Addr) (w : World) : (ReflectliteValue.mk 72 p ReflectliteValue.flagAddr).run Tryd.prog w = .ok (.agg #[.pointer (some ⟨Tryd.prog.globals.size, 72, none⟩), .pointer (some p), .int .u64 406]) w := by kernel_rfl
theorem as_elemVT (a p : Addr) (W : World) (ha : W.cell? a = some (.pointer (some p))) :
    (ReflectliteValue.method (ReflectliteValue.valueError "reflectlite.Value.Elem" 0) ReflectliteValue.elem #[.agg #[.pointer (some ⟨Tryd.prog.globals.size, 74, none⟩), .pointer (some a), .int .u64 150]]).run Tryd.prog W
      = .ok (.agg #[.pointer (some ⟨Tryd.prog.globals.size, 72, none⟩), .pointer (some p), .int .u64 406]) W := by
  rw [as_rlm]
  simp only [Sem.run_bind, as_partsT, Result.andThen]
  simp [ReflectliteValue.elem, loadVar, isAgg, underlying, Tryd.underlying74, ha, Result.andThen, as_elemOfT, as_mkF]
theorem as_rls (v x : Value) : ReflectliteValue.set #[v, x] = (do
    let (some (dst, a, fl), some (src, b, _)) := (← ReflectliteValue.parts v, ← ReflectliteValue.parts x)
      | unsupported (.noEntry "extern/(internal/reflectlite.Value).Set.zeroValue")
    if fl / ReflectliteValue.flagAddr % 2 == 0 then unsupported (.noEntry "extern/(internal/reflectlite.Value).Set.unaddressable")
    let val ← loadVar src b
    if ← Rtype.directlyAssignable dst src then storeVar dst a val
    else if ← Rtype.implements dst src then
      if (← Rtype.kind src) == 20 then
        match val with
        | .nilIface => unsupported (.noEntry "extern/reflectlite: a nil value of one interface type handed on as a value of another")
        | _ => storeVar dst a val
      else storeVar dst a (.iface src val)
    else panicString ("reflectlite.Set: value of type " ++ (← Rtype.spelt src) ++ " is not assignable to type " ++ (← Rtype.spelt dst))
    pure (.tuple #[])) := rfl
theorem as_partsFa (a : Addr) (w : World) : (ReflectliteValue.parts (.agg #[.pointer (some ⟨Tryd.prog.globals.size, 72, none⟩), .pointer (some a), .int .u64 406])).run Tryd.prog w = .ok (some (72, a, 406)) w := by kernel_rfl
theorem as_partsF (a : Addr) (w : World) : (ReflectliteValue.parts (.agg #[.pointer (some ⟨Tryd.prog.globals.size, 72, none⟩), .pointer (some a), .int .u64 150])).run Tryd.prog w = .ok (some (72, a, 150)) w := by kernel_rfl
theorem as_directF (w : World) : (Rtype.directlyAssignable 72 72).run Tryd.prog w = .ok true w := by kernel_rfl
/-- The variable at 'ta' gets what the Value's own one holds. -/
theorem as_setF (ta b e : Addr) (old : Value) (W : World) (hb : W.cell? b = some (.pointer (some e))) (ht : W.cell? ta = some old) (hf : W.frozen? ta = false) :
    (ReflectliteValue.set #[.agg #[.pointer (some ⟨Tryd.prog.globals.size, 72, none⟩), .pointer (some ta), .int .u64 406], .agg #[.pointer (some ⟨Tryd.prog.globals.size, 72, none⟩), .pointer (some b), .int .u64 150]]).run Tryd.prog W
      = .ok (.tuple #[]) (W.setCell ta (.pointer (some e))) := by
  rw [as_rls]
  simp only [Sem.run_bind, as_partsFa, as_partsF, Result.andThen]
  simp [ReflectliteValue.flagAddr, loadVar, isAgg, underlying, Tryd.underlying72, hb, Result.andThen, as_directF, storeVar, Value.cells, storeCells, Addr.add]
  rw [run_store Tryd.prog W ta _ _ (by rfl)]
  simp [ht, hf]

set_option maxHeartbeats 4000000 in
set_option maxRecDepth 100000 in
theorem as_hit (e t : Addr) (old : Value) (w : World) (hg : w.cell? ⟨0, 0, none⟩ = some (.iface 133 (.agg #[.pointer (some ⟨Tryd.prog.globals.size, 26, none⟩)]))) (ht0 : w.cell? t = some old) (hf0 : w.frozen? t = false) :
    Calls Tryd.prog 46 #[.iface 72 (.pointer (some e)), .iface 74 (.pointer (some t))] w fun ev w' => ev = .returned (.bool true) ∧ ∃ wx, Gr w wx ∧ w' = wx.setCell t (.pointer (some e)) := by
  have h6 := @run_callFunc_extern Tryd.prog 64 _ (fun args => ReflectliteValue.unpack (args.getD 0 (.tuple #[]))) Tryd.func64 (by kernel_rfl) (by kernel_rfl) (by kernel_rfl) (by kernel_rfl)
  have h7 := @run_callFunc_extern Tryd.prog 65 _ (ReflectliteValue.methodAny (ReflectliteValue.valueError "reflectlite.Value.Type" 0) (fun t _ _ _ => ReflectliteType.toType t)) Tryd.func65 (by kernel_rfl) (by kernel_rfl) (by kernel_rfl) (by kernel_rfl)
  have h8 := @run_callFunc_extern Tryd.prog 66 _ (ReflectliteValue.method (ReflectliteValue.valueError "reflectlite.Value.IsNil" 0) ReflectliteValue.isNil) Tryd.func66 (by kernel_rfl) (by kernel_rfl) (by kernel_rfl) (by kernel_rfl)
  have h27 := @run_callFunc_extern Tryd.prog 118 _ (ReflectliteType.abiMethod fun t => do pure (.int .u8 (← Rtype.kind t))) Tryd.func118 (by kernel_rfl) (by kernel_rfl) (by kernel_rfl) (by kernel_rfl)
  have h37 := @run_callFunc_extern Tryd.prog 130 _ (ReflectliteType.method ReflectliteType.elem) Tryd.func130 (by kernel_rfl) (by kernel_rfl) (by kernel_rfl) (by kernel_rfl)
  have h38 := @run_callFunc_extern Tryd.prog 131 _ (ReflectliteType.relation "Implements" ReflectliteType.implements_) Tryd.func131 (by kernel_rfl) (by kernel_rfl) (by kernel_rfl) (by kernel_rfl)
  have h10 := @run_callFunc_extern Tryd.prog 89 _ ReflectliteType.typeOf Tryd.func89 (by kernel_rfl) (by kernel_rfl) (by kernel_rfl) (by kernel_rfl)
  have h35 := @run_callFunc_extern Tryd.prog 128 _ (ReflectliteType.relation "AssignableTo" ReflectliteType.assignableTo) Tryd.func128 (by kernel_rfl) (by kernel_rfl) (by kernel_rfl) (by kernel_rfl)
  have h11 := @run_callFunc_extern Tryd.prog 91 _ (ReflectliteValue.method (ReflectliteValue.valueError "reflectlite.Value.Elem" 0) ReflectliteValue.elem) Tryd.func91 (by kernel_rfl) (by kernel_rfl) (by kernel_rfl) (by kernel_rfl)
  have h12 := @run_callFunc_extern Tryd.prog 92 _ ReflectliteValue.set Tryd.func92 (by kernel_rfl) (by kernel_rfl) (by kernel_rfl) (by kernel_rfl)
  have tO := as_typeOfF
  have mA := as_methodAssignableTo
  have aF := as_assignableF
  have vF := as_valueOfF
  have f6 := as_valueOfT
  have f7 := as_typeT
  have mK := as_methodKind
  have mE := as_methodElem
  have mI := as_methodImplements
  have kT := as_kindT
  have kF := as_kindF
  have eT := as_elemT
  have iF := as_implementsF
  have hlt := World.block_lt_of_cell? _ _ hg
  have htl := World.block_lt_of_cell? _ _ ht0
  have n8 := as_isNilT ⟨w.heap.size, 0, none⟩ t
  have el := as_elemVT ⟨w.heap.size, 0, none⟩ t
  have st := as_setF t ⟨w.heap.size + 1 + 1 + 1, 0, none⟩ e old
  generalize Tryd.prog.globals.size = n at tO mA aF vF f6 f7 mK mE mI kT kF eT iF n8 el st hg
  replace n8 := n8 ((w.alloc (.cells #[.pointer (some t)] 74)).alloc (.cells #[.pointer (some ⟨n, 74, none⟩), .pointer (some ⟨w.heap.size, 0, none⟩), .int .u64 150] 100)) (by simp)
  have hg2 : ((w.alloc (.cells #[.pointer (some t)] 74)).alloc (.cells #[.pointer (some ⟨n, 74, none⟩), .pointer (some ⟨w.heap.size, 0, none⟩), .int .u64 150] 100)).cell? ⟨0, 0, none⟩ = some (.iface 133 (.agg #[.pointer (some ⟨n, 26, none⟩)])) := by
    rw [World.cell?_alloc_lt _ _ ⟨0, 0, none⟩ (by simp <;> omega), World.cell?_alloc_lt _ _ ⟨0, 0, none⟩ hlt]; exact hg
  replace el := el (((w.alloc (.cells #[.pointer (some t)] 74)).alloc (.cells #[.pointer (some ⟨n, 74, none⟩), .pointer (some ⟨w.heap.size, 0, none⟩), .int .u64 150] 100)).alloc (.cells #[.pointer (some ⟨n, 74, none⟩), .pointer (some ⟨w.heap.size, 0, none⟩), .int .u64 150] 100)) (by rw [World.cell?_alloc_lt _ _ ⟨w.heap.size, 0, none⟩ (by simp; omega)]; simp)
  replace st := st ((((w.alloc (.cells #[.pointer (some t)] 74)).alloc (.cells #[.pointer (some ⟨n, 74, none⟩), .pointer (some ⟨w.heap.size, 0, none⟩), .int .u64 150] 100)).alloc (.cells #[.pointer (some ⟨n, 74, none⟩), .pointer (some ⟨w.heap.size, 0, none⟩), .int .u64 150] 100)).alloc (.cells #[.pointer (some e)] 72))
    (by rw [World.cell?_alloc_at _ _ _ _ (by simp)]; rfl)
    (by rw [World.cell?_alloc_lt _ _ t (by simp; omega), World.cell?_alloc_lt _ _ t (by simp; omega), World.cell?_alloc_lt _ _ t (by simp; omega), World.cell?_alloc_lt _ _ t htl]; exact ht0)
    (by rw [World.frozen?_alloc_old _ _ t (by simp; omega), World.frozen?_alloc_old _ _ t (by simp; omega), World.frozen?_alloc_old _ _ t (by simp; omega), World.frozen?_alloc_old _ _ t (Nat.ne_of_lt htl)]; exact hf0)
  go_enter Tryd.func46, Tryd.ntmps46
  go_wp2
  refine wp_loop_rounds 1 ?_
  rw [rounds_succ]
  go_wp2
  go_ret
  exact ⟨rfl, _, by go_grown, rfl⟩
end Go.Proofs.YtogflfepkddbhaaDoor
namespace Go.Proofs.YtogflfepkddbhaaDoor
set_option linter.unusedVariables false
open Go.ChangeShapes Go.WideShapes Go.ChangeAt Go.RowKit

/-- What the list of the program's variables holds of errors.errorType. -/
def ErrT (w : World) : Prop := w.cell? ⟨0, 0, none⟩ = some (.iface 133 (.agg #[.pointer (some ⟨Tryd.prog.globals.size, 26, none⟩)]))
theorem errT_gr {a b : World} (h : ErrT a) (g : Gr a b) : ErrT b := cell_gr g h
/-- A Fault that wraps a number. -/
def FaultAt (w : World) (b : Nat) (op : ByteArray) (id k : Int) : Prop := w.cell? ⟨b, 0, none⟩ = some (.string op) ∧ w.cell? ⟨b, 1, none⟩ = some (.int .i64 id) ∧ w.cell? ⟨b, 2, none⟩ = some (.iface 78 (.int .i64 k))
theorem faultAt_gr {a b : World} {B : Nat} {op : ByteArray} {id k : Int} (h : FaultAt a B op id k) (g : Gr a b) : FaultAt b B op id k := ⟨cell_gr g h.1, cell_gr g h.2.1, cell_gr g h.2.2⟩

theorem c_Code_nil2 (w : World) : Calls Tryd.prog 45 #[.nilIface] w fun e w' => e = .returned (.int .i64 0) ∧ Gr w w' := by
  go_enter Tryd.func45, Tryd.ntmps45
  go_wp2
  go_ret
  exact ⟨rfl, by go_grown⟩
set_option maxHeartbeats 1000000 in
set_option maxRecDepth 100000 in
/-- The number of an error that is a number, or wraps one. -/
theorem code_core (T : TypeId) (v : Value) (k : Nat) (hk : 1 ≤ k ∧ k ≤ 15) (w : World) (hn : (T = 72 ∨ T = 78))
    (A : ∀ (i : Nat) wr, Gr w wr → Calls Tryd.prog 63 #[.iface T v, .iface 78 (.int .i64 i)] wr fun e w' => e = .returned (.bool (decide (k = i))) ∧ Gr wr w') :
    Calls Tryd.prog 45 #[.iface T v] w fun e w' => e = .returned (.int .i64 k) ∧ Gr w w' := by
  have H1 := Lib.hid A
  have HK := Lib.hid hk
  clear A hk
  rcases hn with rfl | rfl
  all_goals
    go_enter Tryd.func45, Tryd.ntmps45
    go_wp2_with fail
    go_loopg [3] k (fun j v wr => ∃ i : Nat, i + j = k ∧ 1 ≤ i + 1 ∧ v = .int .i64 ((i : Int) + 1) ∧ i < k ∧ Gr w wr)
    case atStart => exact ⟨0, by omega, by omega, rfl, by have := HK.out; omega, by go_grown⟩
    case round =>
      obtain ⟨i, hj, -, rfl, hik, gwr⟩ := hrel
      have t1 : decide ((i : Int) + 1 ≤ 15) = true := decide_eq_true (by have := HK.out; omega)
      have bnd : (i : Int) + 1 ≤ 15 := by have := HK.out; omega
      have C := H1.out (i + 1)
      rw [show (((i + 1 : Nat) : Int)) = (i : Int) + 1 by omega] at C
      by_cases he : k = i + 1
      · rw [decide_eq_true he] at C
        have H2 := Lib.hid C
        have HE := Lib.hid he
        clear C he
        go_wp2_with fail
        go_at_call 63
        refine ((H2.out _ (by have gg := gwr; have gs := gg.size; go_grown))).mono ?_
        rintro e w1 ⟨rfl, hw1⟩
        have gw1 : Gr w w1 := Gr.trans (by have gg := gwr; have gs := gg.size; go_grown) hw1
        clear hw1 gwr
        go_wp2_with fail
        go_ret
        exact ⟨by rw [HE.out]; rfl, by have gg := gw1; have gs := gg.size; go_grown⟩
      · rw [decide_eq_false he] at C
        have H2 := Lib.hid C
        have HE := Lib.hid he
        clear C he
        go_wp2_with fail
        go_at_call 63
        refine ((H2.out _ (by have gg := gwr; have gs := gg.size; go_grown))).mono ?_
        rintro e w1 ⟨rfl, hw1⟩
        have gw1 : Gr w w1 := Gr.trans (by have gg := gwr; have gs := gg.size; go_grown) hw1
        clear hw1 gwr
        go_wp2_with fail
        go_roundg (k - (i + 1))
        case measure => omega
        case rel => exact ⟨i + 1, by omega, by omega, by go_num, by have := HE.out; omega, by have gg := gw1; have gs := gg.size; go_grown⟩
theorem c_CodeF (b : Nat) (k : Nat) (hk : 1 ≤ k ∧ k ≤ 15) (w : World) (hc : w.cell? ⟨b, 2, none⟩ = some (.iface 78 (.int .i64 k))) :
    Calls Tryd.prog 45 #[.iface 72 (.pointer (some ⟨b, 0, none⟩))] w fun e w' => e = .returned (.int .i64 k) ∧ Gr w w' := by
  refine code_core _ _ k hk w (Or.inl rfl) fun i wr g => ?_
  have C := c_Is_fault b k i wr (cell_gr g hc)
  rw [show decide ((k : Int) = (i : Int)) = decide (k = i) by rw [decide_eq_decide]; omega] at C
  exact C
theorem c_CodeE (k : Nat) (hk : 1 ≤ k ∧ k ≤ 15) (w : World) :
    Calls Tryd.prog 45 #[.iface 78 (.int .i64 k)] w fun e w' => e = .returned (.int .i64 k) ∧ Gr w w' := by
  refine code_core _ _ k hk w (Or.inr rfl) fun i wr g => ?_
  have C := c_Is_errno k i wr
  rw [show decide ((k : Int) = (i : Int)) = decide (k = i) by rw [decide_eq_decide]; omega] at C
  exact C
set_option maxRecDepth 100000 in
theorem c_AlIs_nil (op : ByteArray) (id : Int) (w : World) : Calls Tryd.prog 22 #[.nilIface, .int .i64 0, .string op, .int .i64 id] w fun e w' => e = .returned (.bool true) ∧ Gr w w' := by
  go_enter Tryd.func22, Tryd.ntmps22
  go_wp2_with fail
  go_at_call 45
  refine ((c_Code_nil2 _)).mono ?_
  rintro e w1 ⟨rfl, hw1⟩
  have gw1 : Gr w w1 := Gr.trans (by go_grown) hw1
  clear hw1
  go_wp2_with fail
  go_ret
  exact ⟨rfl, gw1⟩
set_option maxHeartbeats 4000000 in
set_option maxRecDepth 100000 in
theorem c_AlIs_hit (b : Nat) (op : ByteArray) (id : Int) (k : Nat) (hk : 1 ≤ k ∧ k ≤ 15) (W : World) (hE : ErrT W) (hF : FaultAt W b op id k) :
    Calls Tryd.prog 22 #[.iface 72 (.pointer (some ⟨b, 0, none⟩)), .int .i64 k, .string op, .int .i64 id] W fun e w' => e = .returned (.bool true) ∧ Gr W w' := by
  have H1 := Lib.hid (c_CodeF b k hk W hF.2.2)
  have hb := World.block_lt_of_cell? _ _ hF.1
  have t1 : ((k : Int) == 0) = false := by simp; omega
  have t2 : (k == 0) = false := by simp; omega
  have HH := Lib.hid (And.intro hE hF)
  clear hE hF hk
  go_enter Tryd.func22, Tryd.ntmps22
  go_wp2_with fail
  go_at_call 45
  refine ((H1.out)).mono ?_
  rintro e w1 ⟨rfl, hw1⟩
  have gw1 : Gr W w1 := Gr.trans (by go_grown) hw1
  clear hw1
  have hx : (w1.alloc (.cells #[.pointer none] 72)).cell? ⟨w1.heap.size, 0, none⟩ = some (.pointer none) := by go_simp
  have hy : (w1.alloc (.cells #[.pointer none] 72)).frozen? ⟨w1.heap.size, 0, none⟩ = false := by go_simp
  have A := as_hit ⟨b, 0, none⟩ ⟨w1.heap.size, 0, none⟩ (.pointer none) (w1.alloc (.cells #[.pointer none] 72)) (errT_gr HH.out.1 (by have gg := gw1; have gs := gg.size; go_grown)) hx hy
  have H2 := Lib.hid A
  clear A hx hy
  go_wp2_with fail
  go_at_call 46
  refine H2.out.mono ?_
  rintro e w2 ⟨rfl, wx, gx, rfl⟩
  have gWx : Gr W wx := Gr.trans (by have gg := gw1; have gs := gg.size; go_grown) gx
  have sz := gx.size
  have F := faultAt_gr HH.out.2 gWx
  obtain ⟨F0, F1, F2⟩ := F
  have hb1 : b < w1.heap.size := Nat.lt_of_lt_of_le hb gw1.size
  have hz : w1.heap.size < wx.heap.size := by simp at sz; omega
  have c0 : wx.cell? ⟨w1.heap.size, 0, none⟩ = some (.pointer none) := cell_gr gx (by go_simp)
  clear gx sz H2 H1
  go_wp2_with fail
  go_ret
  exact ⟨rfl, by have gg := gWx; have gs := gg.size; have g1 := gw1.size; go_grown⟩
end Go.Proofs.YtogflfepkddbhaaDoor
