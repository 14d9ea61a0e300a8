/- errors that wrap errors: errors.Is, the numbers of errors, an error held against a number, an op and an id -/
import Derived.Test.YtkldgfpkjaokaaaGk
namespace Go.Proofs.Ytkldgfpkjaokaaa
set_option linter.unusedVariables false
open Go.ChangeShapes Go.WideShapes Go.ChangeAt Go.RowKit

/-- An error that is a number, or a Fault that wraps such a one, d deep. -/
def EAt (w : World) (k : Int) : Nat → Value → Prop
  | 0, v => v = .iface 57 (.int .i64 k)
  | d + 1, v => ∃ B u, v = .iface 61 (.pointer (some ⟨B, 0, none⟩)) ∧ w.cell? ⟨B, 2, none⟩ = some u ∧ EAt w k d u
theorem eAt_gr {a b : World} {k : Int} : ∀ {d : Nat} {v : Value}, EAt a k d v → Gr a b → EAt b k d v
  | 0, _, h, _ => h
  | _ + 1, _, ⟨B, u, h1, h2, h3⟩, g => ⟨B, u, h1, cell_gr g h2, eAt_gr h3 g⟩
theorem eAt_form {w : World} {k : Int} {d : Nat} {v : Value} (h : EAt w k d v) : (∃ x, v = .iface 57 x) ∨ ∃ x, v = .iface 61 x := by
  cases d with
  | zero => exact Or.inl ⟨_, h⟩
  | succ d => obtain ⟨B, u, rfl, _⟩ := h; exact Or.inr ⟨_, rfl⟩
theorem faultAt_eat {w : World} {B : Nat} {op : ByteArray} {id k : Int} (h : FaultAt w B op id k) : EAt w k 1 (.iface 61 (.pointer (some ⟨B, 0, none⟩))) := ⟨B, _, rfl, h.2.2, rfl⟩
/-- None, or a Fault of an op and an id that wraps, at whatever depth, a number. -/
def WErr (op : ByteArray) (w : World) (v : Value) (id : Int) (k : Nat) : Prop := (v = .nilIface ∧ k = 0) ∨ ∃ B u d, v = .iface 61 (.pointer (some ⟨B, 0, none⟩)) ∧ 1 ≤ k ∧ k ≤ 15 ∧ w.cell? ⟨B, 0, none⟩ = some (.string op) ∧ w.cell? ⟨B, 1, none⟩ = some (.int .i64 id) ∧ w.cell? ⟨B, 2, none⟩ = some u ∧ EAt w k d u
theorem werr_gr {op : ByteArray} {a b : World} {v : Value} {id : Int} {k : Nat} (h : WErr op a v id k) (g : Gr a b) : WErr op b v id k := by
  rcases h with h | ⟨B, u, d, h1, h2, h3, h4, h5, h6, h7⟩
  · exact Or.inl h
  · exact Or.inr ⟨B, u, d, h1, h2, h3, cell_gr g h4, cell_gr g h5, cell_gr g h6, eAt_gr h7 g⟩
/-- None, or an error with a number. -/
def OErr (w : World) (v : Value) (k : Nat) : Prop := (v = .nilIface ∧ k = 0) ∨ (1 ≤ k ∧ k ≤ 15 ∧ ∃ d, EAt w k d v)
theorem oerr_gr {a b : World} {v : Value} {k : Nat} (h : OErr a v k) (g : Gr a b) : OErr b v k := by
  rcases h with h | ⟨h1, h2, d, h⟩
  · exact Or.inl h
  · exact Or.inr ⟨h1, h2, d, eAt_gr h g⟩
theorem oerr_aerr {op : ByteArray} {w : World} {v : Value} {id k : Nat} (h : AErr op w v id k) : OErr w v k := by
  rcases h with h | ⟨B, rfl, h1, h2, h3⟩
  · exact Or.inl h
  · exact Or.inr ⟨h1, h2, 1, faultAt_eat h3⟩
theorem oerr_werr {op : ByteArray} {w : World} {v : Value} {id : Int} {k : Nat} (h : WErr op w v id k) : OErr w v k := by
  rcases h with h | ⟨B, u, d, h1, h2, h3, h4, h5, h6, h7⟩
  · exact Or.inl h
  · exact Or.inr ⟨h2, h3, d + 1, B, u, h1, h6, h7⟩
set_option maxHeartbeats 2000000 in
set_option maxRecDepth 100000 in
theorem c_is_deep (d : Nat) (v : Value) (i k : Int) (w : World) (h : EAt w i d v) : Calls Try.prog 26 #[v, .iface 57 (.int .i64 k), .bool true] w fun e w' => e = .returned (.bool (decide (i = k))) ∧ Gr w w' := by
  have nI := is_noIs
  have nU := is_noUnwrap
  have nV := is_noUnwraps
  have fI := isF_noIs
  have fU := isF_hasUnwrap
  have heq := is_eql i k
  have hty := fun (x : Value) => run_eql_iface_types (P := Try.prog) 61 57 x (.int .i64 k) Try.underlying33 (by decide)
  have hd : (i == k) = decide (i = k) := by rw [Bool.eq_iff_iff]; simp
  rw [hd] at heq
  generalize decide (i = k) = r at heq ⊢
  clear hd
  go_enter Try.func26, Try.ntmps26
  go_wp2_with fail
  go_loopg [0] d (fun n x wr => EAt w i n x ∧ Gr w wr)
  case atStart => exact ⟨h, by go_grown⟩
  case round =>
    obtain ⟨hx, gwr⟩ := hrel
    clear h
    cases gk with
    | zero =>
      obtain rfl := hx
      cases r
      all_goals
        go_wp2
        go_ret
        exact ⟨rfl, by have gg := gwr; have gs := gg.size; go_grown⟩
    | succ n =>
      obtain ⟨B, u, rfl, hc, hu⟩ := hx
      have hc2 := cell_gr gwr hc
      have HU := Lib.hid hu
      have hB := World.block_lt_of_cell? _ _ hc2
      clear hc
      rcases eAt_form hu with ⟨x, rfl⟩ | ⟨x, rfl⟩
      all_goals
        clear hu
        go_wp2
        go_roundg n
        case measure => omega
        case rel => exact ⟨HU.out, by have gg := gwr; have gs := gg.size; go_grown⟩
set_option maxHeartbeats 2000000 in
set_option maxRecDepth 100000 in
theorem c_Is_deep (d : Nat) (v : Value) (i k : Int) (w : World) (h : EAt w i d v) : Calls Try.prog 18 #[v, .iface 57 (.int .i64 k)] w fun e w' => e = .returned (.bool (decide (i = k))) ∧ Gr w w' := by
  have tT := is_typeOf (.int .i64 k)
  have cT := is_comparable
  generalize Try.prog.globals.size = n at tT cT
  have A1 := fun wr (g : Gr w wr) => c_is_deep d v i k wr (eAt_gr h g)
  generalize decide (i = k) = r at A1 ⊢
  rcases eAt_form h with ⟨x, rfl⟩ | ⟨x, rfl⟩
  all_goals
    have H1 := Lib.hid A1
    clear A1
    clear h
    go_enter Try.func18, Try.ntmps18
    go_wp2_with (go_at_call 26; (with_reducible refine (H1.out _ (by go_grown)).mono ?_); rintro e w1 ⟨rfl, g1⟩)
    go_ret
    exact ⟨rfl, Gr.trans (by go_grown) g1⟩
end Go.Proofs.Ytkldgfpkjaokaaa
