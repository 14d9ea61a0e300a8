/- fault: First; errors.Is of errors that are joined -/
import Derived.Test.YtgmmhddlfalehaaLq
namespace Go.Proofs.Ytgmmhddlfalehaa
set_option linter.unusedVariables false
set_option linter.unusedSimpArgs false
open Go.ChangeShapes Go.WideShapes Go.ChangeAt Go.RowKit

/-- The first of a row that is one. -/
def fkE (kids : Nat → Er) (i : Nat) : Nat → Er
  | 0 => .nil
  | r + 1 => if (kids i).isNil then fkE kids (i + 1) r else kids i
theorem erT_nil {w : World} {T : Er} (h : ErT w T .nilIface) : T = .nil := by
  cases T with
  | nil => rfl
  | num k => cases h
  | flt op id kid => obtain ⟨_, _, e, _⟩ := h; cases e
  | nflt => cases h
  | plain T x => obtain ⟨e, _⟩ := h; cases e
  | cov T kid => obtain ⟨_, _, _, e, _⟩ := h; cases e
  | wrap T n kids => obtain ⟨_, _, _, _, _, _, e, _⟩ := h; cases e
theorem erT_some {w : World} {T : Er} {U : TypeId} {y : Value} (h : ErT w T (.iface U y)) : T.isNil = false := by
  cases T with
  | nil => cases h
  | _ => rfl
set_option maxHeartbeats 1000000 in
set_option maxRecDepth 100000 in
theorem c_fFirst {n : Nat} {kids : Nat → Er} {v : Value} (W : World) (h : Errs W v n kids) (hn : n ≤ 1000000) : Calls Try.prog 21 #[v] W fun e w' => ∃ u, e = .returned u ∧ ErT W (fkE kids 0 n) u ∧ Gr W w' := by
  obtain ⟨ad, cap, B, off, rfl, h1, h2, h3, h4⟩ := h
  have HX := Lib.hid (And.intro h3 h4)
  clear h3 h4
  go_enter Try.func21, Try.ntmps21
  go_wp2_with fail
  go_loopg [7] n (fun k x wr => ∃ i : Nat, x = .int .i64 i ∧ i ≤ n ∧ k = n - i ∧ Hid (fkE kids 0 n = fkE kids i (n - i)) ∧ Gr W wr)
  case atStart => exact ⟨0, rfl, by omega, by omega, Lib.hid rfl, by go_grown⟩
  case round =>
    obtain ⟨i, rfl, hi, hk, HF, hg⟩ := hrel
    by_cases hin : i < n
    · have ti : decide ((i : Int) < (n : Int)) = true := decide_eq_true (by omega)
      have ti2 : decide (i < n) = true := decide_eq_true hin
      have ti3 : (i : Int) < (n : Int) := by omega
      have tn1 : (i : Int) < (cap : Int) := by omega
      have t0 : (0 : Int) ≤ (i : Int) := by omega
      obtain rfl := HX.out.1 (by omega)
      obtain ⟨u, c0, hu⟩ := HX.out.2 i hin
      have c1 := cell_gr hg c0
      have HU := Lib.hid hu
      have hs : n - i = n - (i + 1) + 1 := by omega
      have hf : fkE kids i (n - i) = if (kids i).isNil then fkE kids (i + 1) (n - (i + 1)) else kids i := by rw [hs]; rfl
      have HFF := Lib.hid hf
      clear hf hs c0
      rcases erT_if hu with rfl | ⟨U, y, rfl⟩
      · clear hu
        go_wp2_with fail
        go_roundg (n - (i + 1))
        case measure => omega
        case rel => exact ⟨i + 1, by go_num, by omega, rfl, Lib.hid (by rw [HF.out, HFF.out, erT_nil HU.out]; rfl), hg⟩
      · clear hu
        go_wp2_with fail
        go_ret
        exact ⟨_, rfl, by rw [HF.out, HFF.out, erT_some HU.out]; exact HU.out, hg⟩
    · obtain rfl : i = n := by omega
      have ti : decide ((i : Int) < (i : Int)) = false := decide_eq_false (by omega)
      have ti3 : ¬ (i : Int) < (i : Int) := by omega
      go_wp2_with fail
      go_ret
      exact ⟨_, rfl, by rw [HF.out, Nat.sub_self]; rfl, hg⟩
theorem isJ_noIs (v : Value) (xT : TypeId) (w : World) : (Instr.typeAssert (.iface 83 v) xT 89 true).run Try.prog w = .ok (.tuple #[.nilIface, .bool false]) w := run_typeAssert_lacksB Try.underlying89 (by kernel_rfl) (by kernel_rfl) v xT w
theorem c_JUnwrap (P : Nat) (u : Value) (W : World) (hc : W.cell? ⟨P, 0, none⟩ = some u) : Calls Try.prog 63 #[.pointer (some ⟨P, 0, none⟩)] W fun e w' => e = .returned (u) ∧ Gr W w' := by
  have hB := World.block_lt_of_cell? _ _ hc
  go_enter Try.func63, Try.ntmps63
  go_wp2_with fail
  go_ret
  exact ⟨rfl, by go_grown⟩
/-- Errors that are joined, each a number that is wrapped. -/
structure Joi (w : World) (P : Nat) (n : Nat) (Z : Nat → Int) : Prop where
  row : ∃ (ad : Option Addr) (cap B off : Nat), w.cell? ⟨P, 0, none⟩ = some (.slice ad n cap) ∧ n ≤ cap ∧ cap ≤ 9223372036854775807 ∧ (0 < n → ad = some ⟨B, off, none⟩) ∧ ∀ i, i < n → ∃ d u, w.cell? ⟨B, off + i, none⟩ = some u ∧ FAt w (Z i) d u
theorem joi_gr {a b : World} {P n : Nat} {Z : Nat → Int} (h : Joi a P n Z) (g : Gr a b) : Joi b P n Z := by
  obtain ⟨ad, cap, B, off, c0, h1, h2, h3, h4⟩ := h.row
  exact ⟨ad, cap, B, off, cell_gr g c0, h1, h2, h3, fun i hi => by
    obtain ⟨d, u, h5, h6⟩ := h4 i hi
    exact ⟨d, u, cell_gr g h5, fAt_gr h6 g⟩⟩
set_option maxHeartbeats 2000000 in
set_option maxRecDepth 100000 in
theorem c_is_join {P n : Nat} {Z : Nat → Int} (k : Int) (W : World) (h : Joi W P n Z) (r : Bool) (hr : r = true ↔ ∃ i, i < n ∧ Z i = k) : Calls Try.prog 32 #[.iface 83 (.pointer (some ⟨P, 0, none⟩)), .iface 30 (.int .i64 k), .bool true] W fun e w' => e = .returned (.bool r) ∧ Gr W w' := by
  obtain ⟨ad, cap, B, off, c0, h1, h2, h3, h4⟩ := h.row
  have HX := Lib.hid (And.intro h3 (And.intro h4 hr))
  have nI := isJ_noIs (.pointer (some ⟨P, 0, none⟩))
  have nU := wrapTy_join.u (.pointer (some ⟨P, 0, none⟩))
  have nV := wrapTy_join.us (.pointer (some ⟨P, 0, none⟩))
  have hty := run_eql_iface_types (P := Try.prog) 83 30 (.pointer (some ⟨P, 0, none⟩)) (.int .i64 k) Try.underlying28 (by decide)
  clear h3 h4 hr h
  go_enter Try.func32, Try.ntmps32
  go_wp2_with fail
  refine wp_loop_rounds 1 ?_
  rw [rounds_succ]
  go_wp2_with fail
  go_at_call 63
  refine (c_JUnwrap P _ _ c0).mono ?_
  rintro e w1 ⟨rfl, g1⟩
  have HG1 := Lib.hid g1
  clear c0 g1
  go_wp2_with fail
  go_loopg [45] n (fun j x wr => ∃ i : Nat, x = .int .i64 i ∧ i ≤ n ∧ j = n - i ∧ Hid (∀ t, t < i → Z t ≠ k) ∧ Hid (Gr W wr))
  case atStart => exact ⟨0, rfl, by omega, by omega, Lib.hid (fun t ht => by omega), HG1⟩
  case round =>
    obtain ⟨i, rfl, hi, hj, HN, hg⟩ := hrel
    by_cases hin : i < n
    · have ti : decide ((i : Int) < (n : Int)) = true := decide_eq_true (by omega)
      have ti2 : decide (i < n) = true := decide_eq_true hin
      have ti3 : (i : Int) < (n : Int) := by omega
      have tn1 : (i : Int) < (cap : Int) := by omega
      have t0 : (0 : Int) ≤ (i : Int) := by omega
      obtain rfl := HX.out.1 (by omega)
      obtain ⟨d, u, q0, hu⟩ := HX.out.2.1 i hin
      have q1 := cell_gr hg.out q0
      have AI := Lib.hid (fun w (g : Gr wr w) => c_is_fat d u (Z i) k w (fAt_gr hu (Gr.trans hg.out g)))
      obtain ⟨xT, x, rfl⟩ : ∃ T x, u = .iface T x := by
        rcases fAt_form hu with ⟨x, rfl⟩ | ⟨x, rfl⟩
        · exact ⟨_, x, rfl⟩
        · exact ⟨_, x, rfl⟩
      clear q0 hu
      by_cases hz : Z i = k
      · have er : r = true := HX.out.2.2.2 ⟨i, hin, hz⟩
        subst er
        rw [decide_eq_true hz] at AI
        go_wp2_with fail
        go_at_call 32
        refine (AI.out _ (Below.refl _ _)).mono ?_
        rintro e w2 ⟨rfl, g2⟩
        go_wp2_with fail
        go_ret
        exact ⟨rfl, Gr.trans hg.out g2⟩
      · rw [decide_eq_false hz] at AI
        have HN2 : Hid (∀ t, t < i + 1 → Z t ≠ k) := Lib.hid (fun t ht => by
          by_cases e : t = i
          · rw [e]; exact hz
          · exact HN.out t (by omega))
        go_wp2_with fail
        go_at_call 32
        refine (AI.out _ (Below.refl _ _)).mono ?_
        rintro e w2 ⟨rfl, g2⟩
        have G2 := Lib.hid (Gr.trans hg.out g2)
        clear g2
        go_wp2_with fail
        go_roundg (n - (i + 1))
        case measure => omega
        case rel => exact ⟨i + 1, by go_num, by omega, rfl, HN2, G2⟩
    · obtain rfl : i = n := by omega
      have er : r = false := by
        cases r with
        | false => rfl
        | true =>
          obtain ⟨t, ht, hz⟩ := HX.out.2.2.1 rfl
          exact absurd hz (HN.out t ht)
      subst er
      have ti : decide ((i : Int) < (i : Int)) = false := decide_eq_false (by omega)
      have ti3 : ¬ (i : Int) < (i : Int) := by omega
      go_wp2_with fail
      go_ret
      exact ⟨rfl, hg.out⟩
set_option maxHeartbeats 2000000 in
set_option maxRecDepth 100000 in
theorem c_Is_join {P n : Nat} {Z : Nat → Int} (k : Int) (W : World) (h : Joi W P n Z) (r : Bool) (hr : r = true ↔ ∃ i, i < n ∧ Z i = k) : Calls Try.prog 22 #[.iface 83 (.pointer (some ⟨P, 0, none⟩)), .iface 30 (.int .i64 k)] W fun e w' => e = .returned (.bool r) ∧ Gr W w' := by
  have tT := is_typeOf (.int .i64 k)
  have cT := is_comparable
  generalize Try.prog.globals.size = n at tT cT
  have A1 := fun wr (g : Gr W wr) => c_is_join k wr (joi_gr h g) r hr
  have H1 := Lib.hid A1
  clear A1
  clear h hr
  go_enter Try.func22, Try.ntmps22
  go_wp2_with (go_at_call 32; (with_reducible refine (H1.out _ (by go_grown)).mono ?_); rintro e w1 ⟨rfl, g1⟩)
  go_ret
  exact ⟨rfl, Gr.trans (by go_grown) g1⟩
end Go.Proofs.Ytgmmhddlfalehaa
