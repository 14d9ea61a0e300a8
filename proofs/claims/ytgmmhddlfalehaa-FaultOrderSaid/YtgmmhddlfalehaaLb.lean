/- fault: place, number; what an error wraps, with a deferred closure that recovers -/
import Derived.Test.YtgmmhddlfalehaaLa
namespace Go.Proofs.Ytgmmhddlfalehaa
set_option linter.unusedVariables false
set_option linter.unusedSimpArgs false
open Go.ChangeShapes Go.WideShapes Go.ChangeAt Go.RowKit

theorem ta_noF {T : TypeId} (hne : T ≠ 33) (v : Value) (xT : TypeId) (w : World) : (Instr.typeAssert (.iface T v) xT 33 true).run Try.prog w = .ok (.tuple #[.pointer none, .bool false]) w := by
  have hz : (zeroValue 33).run Try.prog w = .ok (.pointer none) w := by kernel_rfl
  simp [Instr.typeAssert, run_underlying Try.underlying33, hne, hz]
theorem ta_noE {T : TypeId} (hne : T ≠ 30) (v : Value) (xT : TypeId) (w : World) : (Instr.typeAssert (.iface T v) xT 30 true).run Try.prog w = .ok (.tuple #[.int .i64 0, .bool false]) w := by
  have hz : (zeroValue 30).run Try.prog w = .ok (.int .i64 0) w := by kernel_rfl
  simp [Instr.typeAssert, run_underlying Try.underlying30, hne, hz]
theorem ta_isF (v : Value) (xT : TypeId) (w : World) : (Instr.typeAssert (.iface 33 v) xT 33 true).run Try.prog w = .ok (.tuple #[v, .bool true]) w := by
  simp [Instr.typeAssert, run_underlying Try.underlying33]
theorem ta_isE (v : Value) (xT : TypeId) (w : World) : (Instr.typeAssert (.iface 30 v) xT 30 true).run Try.prog w = .ok (.tuple #[v, .bool true]) w := by
  simp [Instr.typeAssert, run_underlying Try.underlying30]
/-- A Fault that is one. -/
def plcE : Value → Value × Bool
  | .iface T (.pointer (some a)) => if T = 33 then (.pointer (some a), true) else (.pointer none, false)
  | _ => (.pointer none, false)
set_option maxRecDepth 100000 in
theorem c_place_nil (W : World) : Calls Try.prog 25 #[.nilIface] W fun e w' => e = .returned (.tuple #[.pointer none, .bool false]) ∧ Gr W w' := by
  have ht : ∀ (xT : TypeId) (w : World), (Instr.typeAssert .nilIface xT 33 true).run Try.prog w = .ok (.tuple #[.pointer none, .bool false]) w := fun _ _ => by kernel_rfl
  go_enter Try.func25, Try.ntmps25
  go_wp2_with fail
  go_ret2
  exact ⟨rfl, by go_grown⟩
theorem c_place_oth {T : TypeId} (hne : T ≠ 33) (x : Value) (W : World) : Calls Try.prog 25 #[.iface T x] W fun e w' => e = .returned (.tuple #[.pointer none, .bool false]) ∧ Gr W w' := by
  have ht := ta_noF hne x
  go_enter Try.func25, Try.ntmps25
  go_wp2_with fail
  go_ret2
  exact ⟨rfl, by go_grown⟩
theorem c_place_nflt (W : World) : Calls Try.prog 25 #[.iface 33 (.pointer none)] W fun e w' => e = .returned (.tuple #[.pointer none, .bool false]) ∧ Gr W w' := by
  have ht := ta_isF (.pointer none)
  go_enter Try.func25, Try.ntmps25
  go_wp2_with fail
  go_ret2
  exact ⟨rfl, by go_grown⟩
theorem c_place_flt (F : Nat) (W : World) : Calls Try.prog 25 #[.iface 33 (.pointer (some ⟨F, 0, none⟩))] W fun e w' => e = .returned (.tuple #[.pointer (some ⟨F, 0, none⟩), .bool true]) ∧ Gr W w' := by
  have ht := ta_isF (.pointer (some ⟨F, 0, none⟩))
  go_enter Try.func25, Try.ntmps25
  go_wp2_with fail
  go_ret2
  exact ⟨rfl, by go_grown⟩
/-- What place says of an error. -/
def Plc (T : Er) (v : Value) (p : Value) (b : Bool) : Prop := (∃ op id kid F, T = .flt op id kid ∧ v = .iface 33 (.pointer (some ⟨F, 0, none⟩)) ∧ p = .pointer (some ⟨F, 0, none⟩) ∧ b = true) ∨ ((∀ op id kid, T ≠ .flt op id kid) ∧ p = .pointer none ∧ b = false)
theorem c_place {w : World} {T : Er} {v : Value} (W : World) (h : ErT w T v) : ∃ p b, Plc T v p b ∧ Calls Try.prog 25 #[v] W fun e w' => e = .returned (.tuple #[p, .bool b]) ∧ Gr W w' := by
  cases T with
  | nil => obtain rfl := h; exact ⟨_, _, Or.inr ⟨(fun _ _ _ e => by cases e), rfl, rfl⟩, c_place_nil W⟩
  | num k => obtain rfl := h; exact ⟨_, _, Or.inr ⟨(fun _ _ _ e => by cases e), rfl, rfl⟩, c_place_oth (by decide) _ W⟩
  | flt op id kid => obtain ⟨F, u, rfl, -⟩ := h; exact ⟨_, _, Or.inl ⟨op, id, kid, F, rfl, rfl, rfl, rfl⟩, c_place_flt F W⟩
  | nflt => obtain rfl := h; exact ⟨_, _, Or.inr ⟨(fun _ _ _ e => by cases e), rfl, rfl⟩, c_place_nflt W⟩
  | plain T x => obtain ⟨rfl, hT, -⟩ := h; exact ⟨_, _, Or.inr ⟨(fun _ _ _ e => by cases e), rfl, rfl⟩, c_place_oth hT.nf _ W⟩
  | cov T kid => obtain ⟨hT, P, u, rfl, -⟩ := h; exact ⟨_, _, Or.inr ⟨(fun _ _ _ e => by cases e), rfl, rfl⟩, c_place_oth hT.nf _ W⟩
  | wrap T n kids => obtain ⟨hT, P, ad, cap, B, off, rfl, -⟩ := h; exact ⟨_, _, Or.inr ⟨(fun _ _ _ e => by cases e), rfl, rfl⟩, c_place_oth hT.nf _ W⟩
/-- The number that an error is. -/
def Er.code : Er → Option Int
  | .num k => some k
  | _ => none
def numV (T : Er) : Value := match T.code with
  | some k => .tuple #[.int .i64 k, .bool true]
  | none => .tuple #[.int .i64 0, .bool false]
theorem c_number_oth {T : TypeId} (hne : T ≠ 30) (x : Value) (W : World) : Calls Try.prog 27 #[.iface T x] W fun e w' => e = .returned (.tuple #[.int .i64 0, .bool false]) ∧ Gr W w' := by
  have ht := ta_noE hne x
  go_enter Try.func27, Try.ntmps27
  go_wp2_with fail
  go_ret2
  exact ⟨rfl, by go_grown⟩
set_option maxRecDepth 100000 in
theorem c_number {w : World} {T : Er} {v : Value} (W : World) (h : ErT w T v) : Calls Try.prog 27 #[v] W fun e w' => e = .returned (numV T) ∧ Gr W w' := by
  cases T with
  | nil =>
    obtain rfl := h
    have ht : ∀ (xT : TypeId) (w : World), (Instr.typeAssert .nilIface xT 30 true).run Try.prog w = .ok (.tuple #[.int .i64 0, .bool false]) w := fun _ _ => by kernel_rfl
    unfold numV Er.code
    go_enter Try.func27, Try.ntmps27
    go_wp2_with fail
    go_ret2
    exact ⟨rfl, by go_grown⟩
  | num k =>
    obtain rfl := h
    have ht := ta_isE (.int .i64 k)
    unfold numV Er.code
    go_enter Try.func27, Try.ntmps27
    go_wp2_with fail
    go_ret2
    exact ⟨rfl, by go_grown⟩
  | flt op id kid => obtain ⟨F, u, rfl, -⟩ := h; exact c_number_oth (by decide) _ W
  | nflt => obtain rfl := h; exact c_number_oth (by decide) _ W
  | plain T x => obtain ⟨rfl, hT, hne⟩ := h; exact c_number_oth hne _ W
  | cov T kid => obtain ⟨hT, P, u, rfl, -⟩ := h; exact c_number_oth hT.ne _ W
  | wrap T n kids => obtain ⟨hT, P, ad, cap, B, off, rfl, -⟩ := h; exact c_number_oth hT.ne _ W
/-- The deferred closures: nothing to recover. -/
theorem d_inner_idle (p : Addr) (w : World) : CallsD Try.prog 36 #[.pointer (some p)] .returning w fun e u' w' => e = .returned (.tuple #[]) ∧ u' = .returning ∧ w' = w := by
  refine callsD_of_wpS Try.func36 rfl fun c₀ cs hu => ?_
  apply wpS_seq
  apply wpS_region
  simp [wpOpsS, go_sem, recoverD, hu, Try.ntmps36, Exit.thenS]
  refine wpS_cond (t := false) (by simp [Act.eval, Array.replicate]) ?_
  simp only [Bool.false_eq_true, if_false]
  refine wpS_of_wp (wp_skip ?_)
  cases c₀
  simp_all [bodyPostS, results, Try.results36]
theorem d_inner_panics (p : Addr) (x : Value) (u : TypeId) (pv : Value) (older : List PanicEntry) (w : World) (hc : w.cell? p = some x) (hz : w.frozen? p = false) :
    CallsD Try.prog 36 #[.pointer (some p)] (.panicking ({ v := .iface u pv, recovered := false } :: older)) w fun e u' w' => e = .returned (.tuple #[]) ∧ u' = .panicking ({ v := .iface u pv, recovered := true } :: older) ∧ w' = w.setCell p (.slice none 0 0) := by
  refine callsD_of_wpS Try.func36 rfl fun c₀ cs hu => ?_
  apply wpS_seq
  apply wpS_region
  simp [wpOpsS, go_sem, recoverD, hu, Try.ntmps36, Exit.thenS]
  refine wpS_cond (t := true) (by simp [Act.eval, Array.replicate]) ?_
  simp only [if_true]
  apply wpS_region
  simp [wpOpsS, go_sem, hc, hz, bodyPostS, results, Try.results36]
theorem d_next_idle (p : Addr) (w : World) : CallsD Try.prog 37 #[.pointer (some p)] .returning w fun e u' w' => e = .returned (.tuple #[]) ∧ u' = .returning ∧ w' = w := by
  refine callsD_of_wpS Try.func37 rfl fun c₀ cs hu => ?_
  apply wpS_seq
  apply wpS_region
  simp [wpOpsS, go_sem, recoverD, hu, Try.ntmps37, Exit.thenS]
  refine wpS_cond (t := false) (by simp [Act.eval, Array.replicate]) ?_
  simp only [Bool.false_eq_true, if_false]
  refine wpS_of_wp (wp_skip ?_)
  cases c₀
  simp_all [bodyPostS, results, Try.results37]
theorem d_next_panics (p : Addr) (x : Value) (u : TypeId) (pv : Value) (older : List PanicEntry) (w : World) (hc : w.cell? p = some x) (hz : w.frozen? p = false) :
    CallsD Try.prog 37 #[.pointer (some p)] (.panicking ({ v := .iface u pv, recovered := false } :: older)) w fun e u' w' => e = .returned (.tuple #[]) ∧ u' = .panicking ({ v := .iface u pv, recovered := true } :: older) ∧ w' = w.setCell p .nilIface := by
  refine callsD_of_wpS Try.func37 rfl fun c₀ cs hu => ?_
  apply wpS_seq
  apply wpS_region
  simp [wpOpsS, go_sem, recoverD, hu, Try.ntmps37, Exit.thenS]
  refine wpS_cond (t := true) (by simp [Act.eval, Array.replicate]) ?_
  simp only [if_true]
  apply wpS_region
  simp [wpOpsS, go_sem, hc, hz, bodyPostS, results, Try.results37]
/-- A Fault's Unwrap. -/
theorem m_fault (n : Nat) (p : Option Addr) (w : World) : (Go.method (n + 1) 33 (.pointer p) "Unwrap").run Try.prog w = .ok (56, .pointer p) w := by cases p <;> kernel_rfl
theorem isF_noUnwraps : ∀ (v : Value) (xT : TypeId) (w : World), (Instr.typeAssert (.iface 33 v) xT 93 true).run Try.prog w = .ok (.tuple #[.nilIface, .bool false]) w := run_typeAssert_lacksB Try.underlying93 (by kernel_rfl) (by kernel_rfl)
theorem c_FUnwrap (F : Nat) (u : Value) (W : World) (hc : W.cell? ⟨F, 2, none⟩ = some u) : Calls Try.prog 56 #[.pointer (some ⟨F, 0, none⟩)] W fun e w' => e = .returned (u) ∧ Gr W w' := by
  have hB := World.block_lt_of_cell? _ _ hc
  go_enter Try.func56, Try.ntmps56
  go_wp2_with fail
  go_ret
  exact ⟨rfl, by go_grown⟩
theorem gr_new {W w : World} {B : Nat} (g : Gr W w) (hB : W.heap.size ≤ B) (v : Value) : Gr W (w.setCell ⟨B, 0, none⟩ v) := Below.setCell g hB v
set_option maxRecDepth 100000 in
theorem c_inner_plain {T : TypeId} (hT : PlainTy T) (x : Value) (W : World) : Calls Try.prog 34 #[.iface T x] W fun e w' => e = .returned (.slice none 0 0) ∧ Gr W w' := by
  have hmf : ∀ (fn : Fn) (first cap : Array Value) (w : World), (Instr.makeFunc fn first cap).run Try.prog w = .ok (.func fn first cap) w := fun _ _ _ _ => rfl
  have nU := hT.u x
  have nV := hT.us x
  go_enter_defers Try.func34, Try.ntmps34
  go_wp2_with fail
  refine leaves_cons (f := 36) (args := #[.pointer (some ⟨W.heap.size, 0, none⟩)]) (by simp) (by simp [go_sem]) ?_
  refine (d_inner_idle ⟨W.heap.size, 0, none⟩ _).mono ?_
  rintro e u' w'' ⟨rfl, rfl, rfl⟩
  refine ⟨.slice none 0 0, ?_, rfl, ?_⟩
  · simp [results, Try.results34, go_sem]
  · go_grown
end Go.Proofs.Ytgmmhddlfalehaa
