/- model: a copy of a map; Get, ids, Items of a map of one object -/
import Derived.Test.YtpomllpplpalkaaGreatDoorWe
namespace Go.Proofs.YtpomllpplpalkaaGreatDoor
set_option linter.unusedVariables false
set_option linter.unusedSimpArgs false
open Go.ChangeShapes Go.WideShapes Go.ChangeAt Go.RowKit Go.Maps Go.Sort Go.Shelf

theorem eqNilO (a : Nat) (w : World) : (binOp .eql 103 (.map (some a)) (.map none)).run Tryz.prog w = .ok (.bool false) w := by kernel_rfl
theorem run_oClone {P : Program} {w : World} {r : Nat} {es : Array MapEntry} {clock : Nat} (t : TypeId) (hb : w.heap[r]? = some (.map es clock)) :
    (Extern.MapsClone.clone #[.iface t (.map (some r))]).run P w = .ok (.iface t (.map (some w.heap.size))) (w.alloc (.map es clock)) := by
  have e : Extern.MapsClone.clone #[.iface t (.map (some r))] = (getObj r >>= fun o => match o with
      | .map entries clock => (newObj (.map entries clock) >>= fun n => pure (.iface t (.map (some n))))
      | _ => stuck "maps.clone: a map expected") := rfl
  rw [e]
  simp [MapKept.run_getObj_map hb, Result.andThen, go_sem]
set_option maxRecDepth 100000 in
theorem c_oClone {b n : Nat} {D : DataW Value} (W : World) (h : W.ownsMap Tryz.prog 3 heldE b n D) :
    Calls Tryz.prog 69 #[.map (some b)] W fun e w' => e = .returned (.map (some W.heap.size)) ∧ w'.ownsMap Tryz.prog 3 heldE W.heap.size n D ∧ Gr W w' := by
  have hE := eqNilO b
  have hlt := h.lt
  obtain ⟨es, clock, hb, F, hs, hD⟩ := h
  have HD := Lib.hid (And.intro hs hD)
  clear hs hD
  go_enter Tryz.func69, Tryz.ntmps69
  go_wp2_with fail
  rw [@run_callFunc_extern Tryz.prog 104 _ Extern.MapsClone.clone Tryz.func104 (by kernel_rfl) (by kernel_rfl) (by kernel_rfl) (by kernel_rfl), run_oClone _ hb]
  simp only [Result.andThen]
  rw [Oper.upon_value]
  go_wp2_with fail
  rw [show ∀ w xT, (Instr.typeAssert (.iface 103 (.map (some W.heap.size))) xT 103 false).run Tryz.prog w = .ok (.map (some W.heap.size)) w from fun w xT => by simp [Instr.typeAssert, run_underlying Tryz.underlying103, go_sem, Result.andThen]]
  simp only [Result.andThen]
  rw [Oper.upon_value]
  go_wp2_with fail
  go_ret
  exact ⟨rfl, ⟨es, clock, (MapKept.heap_alloc W _).1, F, HD.out.1, HD.out.2⟩, by go_grown⟩
theorem res_objb {F : Func} {p q : Tmp} {tmps : Array Value} {w : World} {N : Nat} {k : Int} {u : Value} {b : Bool} (hF : F.results = #[.cell p 34, .tmp q]) (h2 : tmps.getD p undef = .pointer (some ⟨N, 0, none⟩)) (h3 : tmps.getD q undef = .bool b) (c0 : w.cell? ⟨N, 0, none⟩ = some (.int .i64 k)) (c1 : w.cell? ⟨N, 1, none⟩ = some u) :
    (results F tmps).run Tryz.prog w = .ok (.tuple #[.agg #[.int .i64 k, u], .bool b]) w := by
  have g2 : tmps[p]?.getD undef = .pointer (some ⟨N, 0, none⟩) := by simpa using h2
  have g3 : tmps[q]?.getD undef = .bool b := by simpa using h3
  simp [results, hF, go_sem, g2, g3, c0, c1]
end Go.Proofs.YtpomllpplpalkaaGreatDoor
