/- fault: what an error wraps: inner, next -/
import Derived.Test.YtgmmhddlfalehaaLb
namespace Go.Proofs.Ytgmmhddlfalehaa
set_option linter.unusedVariables false
set_option linter.unusedSimpArgs false
open Go.ChangeShapes Go.WideShapes Go.ChangeAt Go.RowKit

/-- A value of an interface type. -/
def IfV (u : Value) : Prop := u = .nilIface ∨ ∃ T x, u = .iface T x
theorem erT_if {w : World} {T : Er} {v : Value} (h : ErT w T v) : IfV v := by
  cases T with
  | nil => exact Or.inl h
  | num k => obtain rfl := h; exact Or.inr ⟨_, _, rfl⟩
  | flt op id kid => obtain ⟨F, u, rfl, -⟩ := h; exact Or.inr ⟨_, _, rfl⟩
  | nflt => obtain rfl := h; exact Or.inr ⟨_, _, rfl⟩
  | plain T x => obtain ⟨rfl, -⟩ := h; exact Or.inr ⟨_, _, rfl⟩
  | cov T kid => obtain ⟨hT, P, u, rfl, -⟩ := h; exact Or.inr ⟨_, _, rfl⟩
  | wrap T n kids => obtain ⟨hT, P, ad, cap, B, off, rfl, -⟩ := h; exact Or.inr ⟨_, _, rfl⟩
set_option maxRecDepth 100000 in
theorem inner_one {T : TypeId} {K : FuncId} {p : Option Addr} {u : Value} (W : World) (hu : IfV u) (nU : ∀ (xT : TypeId) (w : World), (Instr.typeAssert (.iface T (.pointer p)) xT 91 true).run Try.prog w = .ok (.tuple #[.iface T (.pointer p), .bool true]) w)
    (mm : ∀ (n : Nat) (w : World), (Go.method (n + 1) T (.pointer p) "Unwrap").run Try.prog w = .ok (K, .pointer p) w) (mc : ∀ (w : World), (callFunc K #[.pointer p]).run Try.prog w = .ok (.enter K #[.pointer p]) w)
    (A1 : ∀ w, Gr W w → Calls Try.prog K #[.pointer p] w fun e w' => e = .returned u ∧ Gr w w') :
    Calls Try.prog 34 #[.iface T (.pointer p)] W fun e w' => ∃ B, e = .returned (.slice (some ⟨B, 0, none⟩) 1 1) ∧ W.heap.size ≤ B ∧ w'.cell? ⟨B, 0, none⟩ = some u ∧ Gr W w' := by
  have hmf : ∀ (fn : Fn) (first cap : Array Value) (w : World), (Instr.makeFunc fn first cap).run Try.prog w = .ok (.func fn first cap) w := fun _ _ _ _ => rfl
  have H1 := Lib.hid A1
  clear A1
  rcases hu with rfl | ⟨U, x, rfl⟩
  all_goals
    go_enter_defers Try.func34, Try.ntmps34
    go_wp2_with fail
    refine (H1.out _ (by go_grown)).mono ?_
    rintro e w1 ⟨rfl, g1⟩
    have G1 : Gr W w1 := Gr.trans (by go_grown) g1
    have c1 : w1.cell? ⟨W.heap.size, 0, none⟩ = some (.slice none 0 0) := cell_gr g1 (by go_simp)
    have f1 : w1.frozen? ⟨W.heap.size, 0, none⟩ = false := frozen_gr g1 (v := .slice none 0 0) (by go_simp) (by go_simp)
    have z1 := World.block_lt_of_cell? _ _ c1
    clear g1 H1
    go_wp2_with fail
    refine leaves_cons (f := 36) (args := #[.pointer (some ⟨W.heap.size, 0, none⟩)]) (by simp) (by simp [go_sem]) ?_
    refine (d_inner_idle ⟨W.heap.size, 0, none⟩ _).mono ?_
    rintro e u' w'' ⟨rfl, rfl, rfl⟩
    refine ⟨.slice (some ⟨w1.heap.size, 0, none⟩) 1 1, ?_, w1.heap.size, rfl, G1.size, ?_, ?_⟩
    · simp [results, Try.results34, go_sem, c1, z1]
    · go_simp
    · have s1 := G1.size
      exact Gr.trans (Below.setCell G1 (Nat.le_refl _) _) (by go_grown)
theorem m_callF (x : Value) (w : World) : (callFunc 56 #[x]).run Try.prog w = .ok (.enter 56 #[x]) w := by kernel_rfl
set_option maxRecDepth 100000 in
theorem inner_many {T : TypeId} (hT : WrapTy T) {P : Nat} {ad : Option Addr} {n c : Nat} (W : World) (hc : W.cell? ⟨P, 0, none⟩ = some (.slice ad n c)) :
    Calls Try.prog 34 #[.iface T (.pointer (some ⟨P, 0, none⟩))] W fun e w' => e = .returned (.slice ad n c) ∧ Gr W w' := by
  have hmf : ∀ (fn : Fn) (first cap : Array Value) (w : World), (Instr.makeFunc fn first cap).run Try.prog w = .ok (.func fn first cap) w := fun _ _ _ _ => rfl
  have nU := hT.u (.pointer (some ⟨P, 0, none⟩))
  have nV := hT.us (.pointer (some ⟨P, 0, none⟩))
  obtain ⟨K, m1, m0, m2⟩ := hT.m
  have mm := fun n w => m1 n (some ⟨P, 0, none⟩) w
  have mc := fun w => m0 (.pointer (some ⟨P, 0, none⟩)) w
  have A1 := fun w (g : Gr W w) => m2 P _ w (cell_gr g hc)
  clear m1 m2 m0
  have H1 := Lib.hid A1
  clear A1
  go_enter_defers Try.func34, Try.ntmps34
  go_wp2_with fail
  refine (H1.out _ (by go_grown)).mono ?_
  rintro e w1 ⟨rfl, g1⟩
  have G1 : Gr W w1 := Gr.trans (by go_grown) g1
  have c1 : w1.cell? ⟨W.heap.size, 0, none⟩ = some (.slice none 0 0) := cell_gr g1 (by go_simp)
  have f1 : w1.frozen? ⟨W.heap.size, 0, none⟩ = false := frozen_gr g1 (v := .slice none 0 0) (by go_simp) (by go_simp)
  have z1 := World.block_lt_of_cell? _ _ c1
  clear g1 H1
  go_wp2_with fail
  refine leaves_cons (f := 36) (args := #[.pointer (some ⟨W.heap.size, 0, none⟩)]) (by simp) (by simp [go_sem]) ?_
  refine (d_inner_idle ⟨W.heap.size, 0, none⟩ _).mono ?_
  rintro e u' w'' ⟨rfl, rfl, rfl⟩
  refine ⟨.slice ad n c, ?_, rfl, ?_⟩
  · simp [results, Try.results34, go_sem, c1, z1]
  · exact Below.setCell G1 (Nat.le_refl _) _
theorem c_FUnwrap_nil (W : World) : Calls Try.prog 56 #[.pointer none] W fun e w' => e = .returned (.nilIface) ∧ Gr W w' := by
  go_enter Try.func56, Try.ntmps56
  go_wp2_with fail
  go_ret
  exact ⟨rfl, by go_grown⟩
/-- What an error wraps, in a row: the errors of W0. -/
def Kids (W0 W w : World) (r : Value) (n : Nat) (kids : Nat → Er) (us : Nat → Value) : Prop :=
  ∃ (ad : Option Addr) (cap B off : Nat), r = .slice ad n cap ∧ n ≤ cap ∧ cap ≤ 9223372036854775807 ∧ (0 < n → ad = some ⟨B, off, none⟩ ∧ (B < W0.heap.size ∨ W.heap.size ≤ B)) ∧ ∀ i, i < n → w.cell? ⟨B, off + i, none⟩ = some (us i) ∧ ErT W0 (kids i) (us i)
theorem c_inner {T : Er} {v : Value} (W0 W : World) (h : ErT W0 T v) (hn : T ≠ .nil) (G : Gr W0 W) : Calls Try.prog 34 #[v] W fun e w' => ∃ r us, e = .returned r ∧ Kids W0 W w' r T.kidN T.kid us ∧ Gr W w' := by
  have nilE : ∀ (w : World) (k : Nat → Er), Kids W0 W w (.slice none 0 0) 0 k (fun _ => .nilIface) := fun w k => ⟨none, 0, 0, 0, rfl, Nat.le_refl _, by decide, fun h => absurd h (Nat.lt_irrefl _), fun i hi => absurd hi (Nat.not_lt_zero _)⟩
  have oneE : ∀ (w : World) (B : Nat) (u : Value) (T1 : Er) (k : Nat → Er), k 0 = T1 → W.heap.size ≤ B → w.cell? ⟨B, 0, none⟩ = some u → ErT W0 T1 u → Kids W0 W w (.slice (some ⟨B, 0, none⟩) 1 1) 1 k (fun _ => u) := fun w B u T1 k e hb hc hu => ⟨_, 1, B, 0, rfl, Nat.le_refl _, by decide, fun _ => ⟨rfl, Or.inr hb⟩, fun i hi => by
    obtain rfl : i = 0 := by omega
    exact ⟨hc, by rw [e]; exact hu⟩⟩
  cases T with
  | nil => exact absurd rfl hn
  | num k =>
    obtain rfl := h
    refine (c_inner_plain plainTy_errno _ W).mono ?_
    rintro e w' ⟨rfl, g⟩
    exact ⟨_, _, rfl, nilE _ _, g⟩
  | flt op id kid =>
    obtain ⟨F, u, rfl, c0, hk⟩ := h
    have c2 := Hm.cell_of_heap c0 2
    refine (inner_one W (erT_if hk) (isF_hasUnwrap _) (fun n w => m_fault n _ w) (fun w => m_callF _ w) (fun w g => c_FUnwrap F u w (cell_gr (Gr.trans G g) c2))).mono ?_
    rintro e w' ⟨B, rfl, hb, hc, g⟩
    exact ⟨_, _, rfl, oneE _ _ _ _ _ rfl hb hc hk, g⟩
  | nflt =>
    obtain rfl := h
    refine (inner_one W (Or.inl rfl) (isF_hasUnwrap _) (fun n w => m_fault n _ w) (fun w => m_callF _ w) (fun w g => c_FUnwrap_nil w)).mono ?_
    rintro e w' ⟨B, rfl, hb, hc, g⟩
    exact ⟨_, _, rfl, oneE _ _ _ .nil _ rfl hb hc rfl, g⟩
  | plain T x =>
    obtain ⟨rfl, hT, -⟩ := h
    refine (c_inner_plain hT _ W).mono ?_
    rintro e w' ⟨rfl, g⟩
    exact ⟨_, _, rfl, nilE _ _, g⟩
  | cov T kid =>
    obtain ⟨hT, P, u, rfl, c0, hk⟩ := h
    obtain ⟨K, m1, m0, m2⟩ := hT.m
    refine (inner_one W (erT_if hk) (hT.u _) (fun n w => m1 n _ w) (fun w => m0 _ w) (fun w g => m2 P u w (cell_gr (Gr.trans G g) c0))).mono ?_
    rintro e w' ⟨B, rfl, hb, hc, g⟩
    exact ⟨_, _, rfl, oneE _ _ _ _ _ rfl hb hc hk, g⟩
  | wrap T n kids =>
    obtain ⟨hT, P, ad, cap, B, off, rfl, c0, h1, h2, h3, h4⟩ := h
    have hk : ∀ i : Nat, ∃ u, i < n → W0.cell? ⟨B, off + i, none⟩ = some u ∧ ErT W0 (kids i) u := fun i => by
      by_cases hi : i < n
      · obtain ⟨u, hu⟩ := h4 i hi
        exact ⟨u, fun _ => hu⟩
      · exact ⟨.nilIface, fun h => absurd h hi⟩
    refine (inner_many hT W (cell_gr G c0)).mono ?_
    rintro e w' ⟨rfl, g⟩
    exact ⟨_, fun i => (hk i).choose, rfl, ⟨ad, cap, B, off, rfl, h1, h2, fun h0 => ⟨h3 h0, Or.inl (World.block_lt_of_cell? _ _ ((hk 0).choose_spec h0).1)⟩, fun i hi => ⟨cell_gr (Gr.trans G g) ((hk i).choose_spec hi).1, ((hk i).choose_spec hi).2⟩⟩, g⟩
/-- What an error wraps alone. -/
def Er.next : Er → Er
  | .flt _ _ k => k
  | .cov _ k => k
  | _ => .nil
end Go.Proofs.Ytgmmhddlfalehaa
