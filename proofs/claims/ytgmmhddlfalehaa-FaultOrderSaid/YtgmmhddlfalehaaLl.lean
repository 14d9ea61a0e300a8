/- fault: next -/
import Derived.Test.YtgmmhddlfalehaaLk
namespace Go.Proofs.Ytgmmhddlfalehaa
set_option linter.unusedVariables false
set_option linter.unusedSimpArgs false
open Go.ChangeShapes Go.WideShapes Go.ChangeAt Go.RowKit

theorem e_unwrap_no {v : Value} (W : World) (ht : ∀ (xT : TypeId) (w : World), (Instr.typeAssert v xT 91 true).run Try.prog w = .ok (.tuple #[.nilIface, .bool false]) w) : Calls Try.prog 38 #[v] W fun e w' => e = .returned (.nilIface) ∧ Gr W w' := by
  go_enter Try.func38, Try.ntmps38
  go_wp2_with fail
  go_ret
  exact ⟨rfl, by go_grown⟩
set_option maxRecDepth 100000 in
theorem e_unwrap_one {T : TypeId} {K : FuncId} {p : Option Addr} {u : Value} (W : World) (nU : ∀ (xT : TypeId) (w : World), (Instr.typeAssert (.iface T (.pointer p)) xT 91 true).run Try.prog w = .ok (.tuple #[.iface T (.pointer p), .bool true]) w)
    (mm : ∀ (n : Nat) (w : World), (Go.method (n + 1) T (.pointer p) "Unwrap").run Try.prog w = .ok (K, .pointer p) w) (mc : ∀ (w : World), (callFunc K #[.pointer p]).run Try.prog w = .ok (.enter K #[.pointer p]) w)
    (A1 : ∀ w, Gr W w → Calls Try.prog K #[.pointer p] w fun e w' => e = .returned u ∧ Gr w w') :
    Calls Try.prog 38 #[.iface T (.pointer p)] W fun e w' => e = .returned (u) ∧ Gr W w' := by
  have H1 := Lib.hid A1
  clear A1
  go_enter Try.func38, Try.ntmps38
  go_wp2_with fail
  refine (H1.out _ (by go_grown)).mono ?_
  rintro e w1 ⟨rfl, g1⟩
  go_wp2_with fail
  go_ret
  exact ⟨rfl, g1⟩
theorem c_unwrap {T : Er} {v : Value} (W0 W : World) (h : ErT W0 T v) (G : Gr W0 W) : ∃ u, ErT W0 T.next u ∧ Calls Try.prog 38 #[v] W fun e w' => e = .returned (u) ∧ Gr W w' := by
  cases T with
  | nil => obtain rfl := h; exact ⟨.nilIface, rfl, e_unwrap_no W (fun _ _ => by kernel_rfl)⟩
  | num k => obtain rfl := h; exact ⟨.nilIface, rfl, e_unwrap_no W (plainTy_errno.u _)⟩
  | flt op id kid =>
    obtain ⟨F, u, rfl, c0, hk⟩ := h
    exact ⟨u, hk, e_unwrap_one W (isF_hasUnwrap _) (fun n w => m_fault n _ w) (fun w => m_callF _ w) (fun w g => c_FUnwrap F u w (cell_gr (Gr.trans G g) (Hm.cell_of_heap c0 2)))⟩
  | nflt => obtain rfl := h; exact ⟨.nilIface, rfl, e_unwrap_one W (isF_hasUnwrap _) (fun n w => m_fault n _ w) (fun w => m_callF _ w) (fun w g => c_FUnwrap_nil w)⟩
  | plain T x => obtain ⟨rfl, hT, -⟩ := h; exact ⟨.nilIface, rfl, e_unwrap_no W (hT.u _)⟩
  | cov T kid =>
    obtain ⟨hT, P, u, rfl, c0, hk⟩ := h
    obtain ⟨K, m1, m0, m2⟩ := hT.m
    exact ⟨u, hk, e_unwrap_one W (hT.u _) (fun n w => m1 n _ w) (fun w => m0 _ w) (fun w g => m2 P u w (cell_gr (Gr.trans G g) c0))⟩
  | wrap T n kids => obtain ⟨hT, P, ad, cap, B, off, rfl, -⟩ := h; exact ⟨.nilIface, rfl, e_unwrap_no W (hT.u _)⟩
set_option maxRecDepth 100000 in
theorem next_core {v u : Value} (W : World) (hu : IfV u) (A1 : ∀ w, Gr W w → Calls Try.prog 38 #[v] w fun e w' => e = .returned u ∧ Gr w w') : Calls Try.prog 35 #[v] W fun e w' => e = .returned (u) ∧ Gr W w' := by
  have hmf : ∀ (fn : Fn) (first cap : Array Value) (w : World), (Instr.makeFunc fn first cap).run Try.prog w = .ok (.func fn first cap) w := fun _ _ _ _ => rfl
  have H1 := Lib.hid A1
  clear A1
  rcases hu with rfl | ⟨U, x, rfl⟩
  all_goals
    go_enter_defers Try.func35, Try.ntmps35
    go_wp2_with fail
    go_at_call 38
    refine (H1.out _ (by go_grown)).mono ?_
    rintro e w1 ⟨rfl, g1⟩
    have G1 : Gr W w1 := Gr.trans (by go_grown) g1
    have c1 : w1.cell? ⟨W.heap.size, 0, none⟩ = some .nilIface := cell_gr g1 (by go_simp)
    have f1 : w1.frozen? ⟨W.heap.size, 0, none⟩ = false := frozen_gr g1 (v := .nilIface) (by go_simp) (by go_simp)
    have z1 := World.block_lt_of_cell? _ _ c1
    clear g1 H1
    go_wp2_with fail
    refine leaves_cons (f := 37) (args := #[.pointer (some ⟨W.heap.size, 0, none⟩)]) (by simp) (by simp [go_sem]) ?_
    refine (d_next_idle ⟨W.heap.size, 0, none⟩ _).mono ?_
    rintro e u' w'' ⟨rfl, rfl, rfl⟩
    refine ⟨_, ?_, rfl, ?_⟩
    · simp [results, Try.results35, go_sem, c1, z1]
    · exact Below.setCell G1 (Nat.le_refl _) _
theorem c_next {T : Er} {v : Value} (W0 W : World) (h : ErT W0 T v) (G : Gr W0 W) : ∃ u, ErT W0 T.next u ∧ Calls Try.prog 35 #[v] W fun e w' => e = .returned (u) ∧ Gr W w' := by
  have hk : ∀ w, Gr W w → ∃ u, ErT W0 T.next u ∧ Calls Try.prog 38 #[v] w fun e w' => e = .returned u ∧ Gr w w' := fun w g => c_unwrap W0 w h (Gr.trans G g)
  have huniq : ∃ u, ErT W0 T.next u ∧ ∀ w, Gr W w → Calls Try.prog 38 #[v] w fun e w' => e = .returned u ∧ Gr w w' := by
    cases T with
    | nil => obtain rfl := h; exact ⟨.nilIface, rfl, fun w g => e_unwrap_no w (fun _ _ => by kernel_rfl)⟩
    | num k => obtain rfl := h; exact ⟨.nilIface, rfl, fun w g => e_unwrap_no w (plainTy_errno.u _)⟩
    | flt op id kid =>
      obtain ⟨F, u, rfl, c0, hk⟩ := h
      exact ⟨u, hk, fun w g => e_unwrap_one w (isF_hasUnwrap _) (fun n w => m_fault n _ w) (fun w => m_callF _ w) (fun w' g' => c_FUnwrap F u w' (cell_gr (Gr.trans G (Gr.trans g g')) (Hm.cell_of_heap c0 2)))⟩
    | nflt => obtain rfl := h; exact ⟨.nilIface, rfl, fun w g => e_unwrap_one w (isF_hasUnwrap _) (fun n w => m_fault n _ w) (fun w => m_callF _ w) (fun w g => c_FUnwrap_nil w)⟩
    | plain T x => obtain ⟨rfl, hT, -⟩ := h; exact ⟨.nilIface, rfl, fun w g => e_unwrap_no w (hT.u _)⟩
    | cov T kid =>
      obtain ⟨hT, P, u, rfl, c0, hk⟩ := h
      obtain ⟨K, m1, m0, m2⟩ := hT.m
      exact ⟨u, hk, fun w g => e_unwrap_one w (hT.u _) (fun n w => m1 n _ w) (fun w => m0 _ w) (fun w' g' => m2 P u w' (cell_gr (Gr.trans G (Gr.trans g g')) c0))⟩
    | wrap T n kids => obtain ⟨hT, P, ad, cap, B, off, rfl, -⟩ := h; exact ⟨.nilIface, rfl, fun w g => e_unwrap_no w (hT.u _)⟩
  obtain ⟨u, hu, hc⟩ := huniq
  exact ⟨u, hu, next_core W (erT_if hu) hc⟩
end Go.Proofs.Ytgmmhddlfalehaa
