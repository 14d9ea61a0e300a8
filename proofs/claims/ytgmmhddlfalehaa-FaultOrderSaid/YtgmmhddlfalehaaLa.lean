/- errors as trees: what they are in memory -/
import Derived.Test.YtgmmhddlfalehaaRi
import Derived.Test.YtgmmhddlfalehaaOe
import Derived.Defers
import Derived.Recover
namespace Go.Proofs.Ytgmmhddlfalehaa
set_option linter.unusedVariables false
set_option linter.unusedSimpArgs false
open Go.ChangeShapes Go.WideShapes Go.ChangeAt Go.RowKit

/-- A type of errors that wraps none. -/
structure PlainTy (T : TypeId) : Prop where
  nf : T ≠ 33
  u : ∀ (v : Value) (xT : TypeId) (w : World), (Instr.typeAssert (.iface T v) xT 91 true).run Try.prog w = .ok (.tuple #[.nilIface, .bool false]) w
  us : ∀ (v : Value) (xT : TypeId) (w : World), (Instr.typeAssert (.iface T v) xT 93 true).run Try.prog w = .ok (.tuple #[.nilIface, .bool false]) w
/-- .. one. -/
structure CovTy (T : TypeId) : Prop where
  nf : T ≠ 33
  ne : T ≠ 30
  u : ∀ (v : Value) (xT : TypeId) (w : World), (Instr.typeAssert (.iface T v) xT 91 true).run Try.prog w = .ok (.tuple #[.iface T v, .bool true]) w
  m : ∃ K, (∀ (n : Nat) (p : Option Addr) (w : World), (Go.method (n + 1) T (.pointer p) "Unwrap").run Try.prog w = .ok (K, .pointer p) w) ∧ (∀ (x : Value) (w : World), (callFunc K #[x]).run Try.prog w = .ok (.enter K #[x]) w) ∧ ∀ (P : Nat) (u : Value) (w : World), w.cell? ⟨P, 0, none⟩ = some u → Calls Try.prog K #[.pointer (some ⟨P, 0, none⟩)] w fun e w' => e = .returned u ∧ Gr w w'
/-- .. many. -/
structure WrapTy (T : TypeId) : Prop where
  nf : T ≠ 33
  ne : T ≠ 30
  u : ∀ (v : Value) (xT : TypeId) (w : World), (Instr.typeAssert (.iface T v) xT 91 true).run Try.prog w = .ok (.tuple #[.nilIface, .bool false]) w
  us : ∀ (v : Value) (xT : TypeId) (w : World), (Instr.typeAssert (.iface T v) xT 93 true).run Try.prog w = .ok (.tuple #[.iface T v, .bool true]) w
  m : ∃ K, (∀ (n : Nat) (p : Option Addr) (w : World), (Go.method (n + 1) T (.pointer p) "Unwrap").run Try.prog w = .ok (K, .pointer p) w) ∧ (∀ (x : Value) (w : World), (callFunc K #[x]).run Try.prog w = .ok (.enter K #[x]) w) ∧ ∀ (P : Nat) (u : Value) (w : World), w.cell? ⟨P, 0, none⟩ = some u → Calls Try.prog K #[.pointer (some ⟨P, 0, none⟩)] w fun e w' => e = .returned u ∧ Gr w w'
theorem plainTy_errno : PlainTy 30 := ⟨by decide, is_noUnwrap, is_noUnwraps⟩
/-- An error. -/
inductive Er where
  | nil
  | num (k : Int)
  | flt (op : ByteArray) (id : Int) (kid : Er)
  | nflt
  | plain (T : TypeId) (x : Value)
  | cov (T : TypeId) (kid : Er)
  | wrap (T : TypeId) (n : Nat) (kids : Nat → Er)
/-- .. as a value, in memory. -/
def ErT (w : World) : Er → Value → Prop
  | .nil, v => v = .nilIface
  | .num k, v => v = .iface 30 (.int .i64 k)
  | .flt op id kid, v => ∃ F u, v = .iface 33 (.pointer (some ⟨F, 0, none⟩)) ∧ w.heap[F]? = some (.cells #[.string op, .int .i64 id, u] 37 (0, 0)) ∧ ErT w kid u
  | .nflt, v => v = .iface 33 (.pointer none)
  | .plain T x, v => v = .iface T x ∧ PlainTy T ∧ T ≠ 30
  | .cov T kid, v => CovTy T ∧ ∃ P u, v = .iface T (.pointer (some ⟨P, 0, none⟩)) ∧ w.cell? ⟨P, 0, none⟩ = some u ∧ ErT w kid u
  | .wrap T n kids, v => WrapTy T ∧ ∃ (P : Nat) (ad : Option Addr) (cap B off : Nat), v = .iface T (.pointer (some ⟨P, 0, none⟩)) ∧ w.cell? ⟨P, 0, none⟩ = some (.slice ad n cap) ∧ n ≤ cap ∧ cap ≤ 9223372036854775807 ∧ (0 < n → ad = some ⟨B, off, none⟩) ∧ ∀ i, i < n → ∃ u, w.cell? ⟨B, off + i, none⟩ = some u ∧ ErT w (kids i) u
theorem erT_gr {a b : World} (g : Gr a b) : ∀ {T : Er} {v : Value}, ErT a T v → ErT b T v
  | .nil, _, h => h
  | .num _, _, h => h
  | .flt _ _ kid, _, h => by
    obtain ⟨F, u, e, c0, hk⟩ := h
    exact ⟨F, u, e, heap_kx (S := fun _ => False) (Kx.of_gr g) (fun h => h) c0, erT_gr g hk⟩
  | .nflt, _, h => h
  | .plain _ _, _, h => h
  | .cov _ kid, _, h => by
    obtain ⟨hT, P, u, e, c0, hk⟩ := h
    exact ⟨hT, P, u, e, cell_gr g c0, erT_gr g hk⟩
  | .wrap _ n kids, _, h => by
    obtain ⟨hT, P, ad, cap, B, off, e, c0, h1, h2, h3, h4⟩ := h
    exact ⟨hT, P, ad, cap, B, off, e, cell_gr g c0, h1, h2, h3, fun i hi => by
      obtain ⟨u, hc, hu⟩ := h4 i hi
      exact ⟨u, cell_gr g hc, erT_gr g hu⟩⟩
/-- How many there are, all within too. -/
def erSum (f : Nat → Nat) : Nat → Nat
  | 0 => 0
  | n + 1 => erSum f n + f n
theorem erSum_le (f : Nat → Nat) : ∀ n i, i < n → f i ≤ erSum f n
  | 0, i, h => absurd h (Nat.not_lt_zero _)
  | n + 1, i, h => by
    show f i ≤ erSum f n + f n
    by_cases e : i = n
    · subst e; omega
    · have := erSum_le f n i (by omega); omega
theorem erSum_congr {f g : Nat → Nat} : ∀ n, (∀ i, i < n → f i = g i) → erSum f n = erSum g n
  | 0, _ => rfl
  | n + 1, h => by
    show erSum f n + f n = erSum g n + g n
    rw [erSum_congr n (fun i hi => h i (by omega)), h n (by omega)]
def Er.size : Er → Nat
  | .nil => 1
  | .num _ => 1
  | .flt _ _ kid => 1 + kid.size
  | .nflt => 2
  | .plain _ _ => 1
  | .cov _ kid => 1 + kid.size
  | .wrap _ n kids => 1 + erSum (fun i => (kids i).size) n
/-- One value is one error, so great. -/
theorem erT_det {w : World} : ∀ {T T' : Er} {v : Value}, ErT w T v → ErT w T' v → T.size = T'.size
  | .nil, T', v, h, h' => by
    obtain rfl := h
    cases T' with
    | nil => rfl
    | num k => cases h'
    | flt op id kid => obtain ⟨_, _, e, _⟩ := h'; cases e
    | nflt => cases h'
    | plain T x => obtain ⟨e, _⟩ := h'; cases e
    | cov T kid => obtain ⟨_, _, _, e, _⟩ := h'; cases e
    | wrap T n kids => obtain ⟨_, _, _, _, _, _, e, _⟩ := h'; cases e
  | .num k, T', v, h, h' => by
    obtain rfl := h
    cases T' with
    | nil => cases h'
    | num k => rfl
    | flt op id kid => obtain ⟨_, _, e, _⟩ := h'; cases e
    | nflt => cases h'
    | plain T x => obtain ⟨e, _⟩ := h'; rfl
    | cov T kid => obtain ⟨hT, _, _, e, _⟩ := h'; cases e
    | wrap T n kids => obtain ⟨hT, _, _, _, _, _, e, _⟩ := h'; cases e
  | .flt op id kid, T', v, h, h' => by
    obtain ⟨F, u, rfl, c0, hk⟩ := h
    cases T' with
    | nil => cases h'
    | num k => cases h'
    | flt op' id' kid' =>
      obtain ⟨F', u', e, c0', hk'⟩ := h'
      simp only [Value.iface.injEq, Value.pointer.injEq, Option.some.injEq, Addr.mk.injEq, true_and, and_true] at e
      subst e
      rw [c0] at c0'
      have e2 := Option.some.inj c0'
      simp only [Obj.cells.injEq, Array.mk.injEq, List.cons.injEq, and_true] at e2
      obtain ⟨-, -, rfl⟩ := e2
      exact congrArg (1 + ·) (erT_det hk hk')
    | nflt => cases h'
    | plain T x => obtain ⟨e, hT, _⟩ := h'; cases e; exact absurd rfl hT.nf
    | cov T kid => obtain ⟨hT, _, _, e, _⟩ := h'; cases e; exact absurd rfl hT.nf
    | wrap T n kids => obtain ⟨hT, _, _, _, _, _, e, _⟩ := h'; cases e; exact absurd rfl hT.nf
  | .nflt, T', v, h, h' => by
    obtain rfl := h
    cases T' with
    | nil => cases h'
    | num k => cases h'
    | flt op id kid => obtain ⟨_, _, e, _⟩ := h'; cases e
    | nflt => rfl
    | plain T x => obtain ⟨e, hT, _⟩ := h'; cases e; exact absurd rfl hT.nf
    | cov T kid => obtain ⟨hT, _, _, e, _⟩ := h'; cases e
    | wrap T n kids => obtain ⟨hT, _, _, _, _, _, e, _⟩ := h'; cases e
  | .plain T x, T', v, h, h' => by
    obtain ⟨rfl, hT, hne⟩ := h
    cases T' with
    | nil => cases h'
    | num k => rfl
    | flt op id kid => obtain ⟨_, _, e, _⟩ := h'; cases e; exact absurd rfl hT.nf
    | nflt => cases h'; exact absurd rfl hT.nf
    | plain T x => rfl
    | cov T kid =>
      obtain ⟨hT', _, _, e, _⟩ := h'
      cases e
      have a := hT.u (.nilIface) 0 w
      rw [hT'.u (.nilIface) 0 w] at a
      cases a
    | wrap T n kids =>
      obtain ⟨hT', _, _, _, _, _, e, _⟩ := h'
      cases e
      have a := hT.us (.nilIface) 0 w
      rw [hT'.us (.nilIface) 0 w] at a
      cases a
  | .cov T kid, T', v, h, h' => by
    obtain ⟨hT, P, u, rfl, c0, hk⟩ := h
    cases T' with
    | nil => cases h'
    | num k => cases h'
    | flt op id kid => obtain ⟨_, _, e, _⟩ := h'; cases e; exact absurd rfl hT.nf
    | nflt => cases h'
    | plain T x =>
      obtain ⟨e, hT', _⟩ := h'
      cases e
      have a := hT.u (.nilIface) 0 w
      rw [hT'.u (.nilIface) 0 w] at a
      cases a
    | cov T kid =>
      obtain ⟨hT', P', u', e, c0', hk'⟩ := h'
      simp only [Value.iface.injEq, Value.pointer.injEq, Option.some.injEq, Addr.mk.injEq, true_and, and_true] at e
      obtain ⟨-, rfl⟩ := e
      rw [c0] at c0'
      obtain rfl := Option.some.inj c0'
      exact congrArg (1 + ·) (erT_det hk hk')
    | wrap T n kids =>
      obtain ⟨hT', _, _, _, _, _, e, _⟩ := h'
      cases e
      have a := hT.u (.nilIface) 0 w
      rw [hT'.u (.nilIface) 0 w] at a
      cases a
  | .wrap T n kids, T', v, h, h' => by
    obtain ⟨hT, P, ad, cap, B, off, rfl, c0, h1, h2, h3, h4⟩ := h
    cases T' with
    | nil => cases h'
    | num k => cases h'
    | flt op id kid => obtain ⟨_, _, e, _⟩ := h'; cases e; exact absurd rfl hT.nf
    | nflt => cases h'
    | plain T x =>
      obtain ⟨e, hT', _⟩ := h'
      cases e
      have a := hT.us (.nilIface) 0 w
      rw [hT'.us (.nilIface) 0 w] at a
      cases a
    | cov T kid =>
      obtain ⟨hT', _, _, e, _⟩ := h'
      cases e
      have a := hT.u (.nilIface) 0 w
      rw [hT'.u (.nilIface) 0 w] at a
      cases a
    | wrap T n' kids' =>
      obtain ⟨hT', P', ad', cap', B', off', e, c0', h1', h2', h3', h4'⟩ := h'
      simp only [Value.iface.injEq, Value.pointer.injEq, Option.some.injEq, Addr.mk.injEq, true_and, and_true] at e
      obtain ⟨-, rfl⟩ := e
      rw [c0] at c0'
      have e2 := Option.some.inj c0'
      simp only [Value.slice.injEq] at e2
      obtain ⟨rfl, rfl, rfl⟩ := e2
      refine congrArg (1 + ·) (erSum_congr n (fun i hi => ?_))
      obtain ⟨u, hc, hu⟩ := h4 i hi
      obtain ⟨u', hc', hu'⟩ := h4' i hi
      have ea := (h3 (by omega)).symm.trans (h3' (by omega))
      simp only [Option.some.injEq, Addr.mk.injEq, and_true] at ea
      obtain ⟨rfl, rfl⟩ := ea
      rw [hc] at hc'
      obtain rfl := Option.some.inj hc'
      exact erT_det hu hu'
/-- What it wraps. -/
def Er.kidN : Er → Nat
  | .flt _ _ _ => 1
  | .nflt => 1
  | .cov _ _ => 1
  | .wrap _ n _ => n
  | _ => 0
def Er.kid : Er → Nat → Er
  | .flt _ _ k, _ => k
  | .cov _ k, _ => k
  | .wrap _ _ k, i => k i
  | _, _ => .nil
theorem er_sum (T : Er) : T.size = 1 + erSum (fun i => (T.kid i).size) T.kidN := by
  cases T with
  | nil => rfl
  | num => rfl
  | flt op id kid => show 1 + kid.size = 1 + (0 + kid.size); omega
  | nflt => rfl
  | plain => rfl
  | cov T kid => show 1 + kid.size = 1 + (0 + kid.size); omega
  | wrap => rfl
/-- Errors in a row. -/
def Errs (w : World) (v : Value) (n : Nat) (kids : Nat → Er) : Prop := ∃ (ad : Option Addr) (cap B off : Nat), v = .slice ad n cap ∧ n ≤ cap ∧ cap ≤ 9223372036854775807 ∧ (0 < n → ad = some ⟨B, off, none⟩) ∧ ∀ i, i < n → ∃ u, w.cell? ⟨B, off + i, none⟩ = some u ∧ ErT w (kids i) u
theorem errs_gr {a b : World} {v : Value} {n : Nat} {kids : Nat → Er} (h : Errs a v n kids) (g : Gr a b) : Errs b v n kids := by
  obtain ⟨ad, cap, B, off, e, h1, h2, h3, h4⟩ := h
  exact ⟨ad, cap, B, off, e, h1, h2, h3, fun i hi => by
    obtain ⟨u, hc, hu⟩ := h4 i hi
    exact ⟨u, cell_gr g hc, erT_gr g hu⟩⟩
/-- The errors.joinError. -/
theorem wrapTy_join : WrapTy 83 := by
  refine ⟨by decide, by decide, run_typeAssert_lacksB Try.underlying91 (by kernel_rfl) (by kernel_rfl), run_typeAssert_hasB Try.underlying93 (by kernel_rfl), 63, fun n p w => by cases p <;> kernel_rfl, fun x w => by kernel_rfl, fun P u w hc => ?_⟩
  have hB := World.block_lt_of_cell? _ _ hc
  go_enter Try.func63, Try.ntmps63
  go_wp2_with fail
  go_ret
  exact ⟨rfl, by go_grown⟩
theorem wrapTy_many : WrapTy 58 := by
  refine ⟨by decide, by decide, run_typeAssert_lacksB Try.underlying91 (by kernel_rfl) (by kernel_rfl), run_typeAssert_hasB Try.underlying93 (by kernel_rfl), 59, fun n p w => by cases p <;> kernel_rfl, fun x w => by kernel_rfl, fun P u w hc => ?_⟩
  have hB := World.block_lt_of_cell? _ _ hc
  go_enter Try.func59, Try.ntmps59
  go_wp2_with fail
  go_ret
  exact ⟨rfl, by go_grown⟩
theorem covTy_cover : CovTy 61 := by
  refine ⟨by decide, by decide, run_typeAssert_hasB Try.underlying91 (by kernel_rfl), 61, fun n p w => by cases p <;> kernel_rfl, fun x w => by kernel_rfl, fun P u w hc => ?_⟩
  have hB := World.block_lt_of_cell? _ _ hc
  go_enter Try.func61, Try.ntmps61
  go_wp2_with fail
  go_ret
  exact ⟨rfl, by go_grown⟩
theorem plainTy_plain : PlainTy 45 := ⟨by decide, run_typeAssert_lacksB Try.underlying91 (by kernel_rfl) (by kernel_rfl), run_typeAssert_lacksB Try.underlying93 (by kernel_rfl) (by kernel_rfl)⟩
end Go.Proofs.Ytgmmhddlfalehaa
