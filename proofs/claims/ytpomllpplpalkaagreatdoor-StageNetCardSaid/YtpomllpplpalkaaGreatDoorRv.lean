/- errors that wrap errors: errors.Is, the numbers of errors, an error held against a number, an op and an id -/
import Derived.Test.YtpomllpplpalkaaGreatDoorGc
namespace Go.Proofs.YtpomllpplpalkaaGreatDoor
set_option linter.unusedVariables false
open Go.ChangeShapes Go.WideShapes Go.ChangeAt Go.RowKit

def EAt (w : World) (k : Int) : Nat → Value → Prop
  | 0, v => v = .iface 107 (.int .i64 k)
  | d + 1, v => ∃ B u, v = .iface 108 (.pointer (some ⟨B, 0, none⟩)) ∧ w.cell? ⟨B, 2, none⟩ = some u ∧ EAt w k d u
theorem eAt_gr {a b : World} {k : Int} : ∀ {d : Nat} {v : Value}, EAt a k d v → Gr a b → EAt b k d v
  | 0, _, h, _ => h
  | _ + 1, _, ⟨B, u, h1, h2, h3⟩, g => ⟨B, u, h1, cell_gr g h2, eAt_gr h3 g⟩
theorem eAt_form {w : World} {k : Int} {d : Nat} {v : Value} (h : EAt w k d v) : (∃ x, v = .iface 107 x) ∨ ∃ x, v = .iface 108 x := by
  cases d with
  | zero => exact Or.inl ⟨_, h⟩
  | succ d => obtain ⟨B, u, rfl, _⟩ := h; exact Or.inr ⟨_, rfl⟩
theorem faultAt_eat {w : World} {B : Nat} {op : ByteArray} {id k : Int} (h : FaultAt w B op id k) : EAt w k 1 (.iface 108 (.pointer (some ⟨B, 0, none⟩))) := ⟨B, _, rfl, h.2.2, rfl⟩
def WErr (op : ByteArray) (w : World) (v : Value) (id : Int) (k : Nat) : Prop := (v = .nilIface ∧ k = 0) ∨ ∃ B u d, v = .iface 108 (.pointer (some ⟨B, 0, none⟩)) ∧ 1 ≤ k ∧ k ≤ 15 ∧ w.cell? ⟨B, 0, none⟩ = some (.string op) ∧ w.cell? ⟨B, 1, none⟩ = some (.int .i64 id) ∧ w.cell? ⟨B, 2, none⟩ = some u ∧ EAt w k d u
def OErr (w : World) (v : Value) (k : Nat) : Prop := (v = .nilIface ∧ k = 0) ∨ (1 ≤ k ∧ k ≤ 15 ∧ ∃ d, EAt w k d v)
theorem oerr_aerr {op : ByteArray} {w : World} {v : Value} {id k : Nat} (h : AErr op w v id k) : OErr w v k := by
  rcases h with h | ⟨B, rfl, h1, h2, h3⟩
  · exact Or.inl h
  · exact Or.inr ⟨h1, h2, 1, faultAt_eat h3⟩
theorem oerr_werr {op : ByteArray} {w : World} {v : Value} {id : Int} {k : Nat} (h : WErr op w v id k) : OErr w v k := by
  rcases h with h | ⟨B, u, d, h1, h2, h3, h4, h5, h6, h7⟩
  · exact Or.inl h
  · exact Or.inr ⟨h2, h3, d + 1, B, u, h1, h6, h7⟩
set_option maxHeartbeats 2000000 in
set_option maxRecDepth 100000 in
theorem c_is_deep (d : Nat) (v : Value) (i k : Int) (w : World) (h : EAt w i d v) : Calls Tryz.prog 99 #[v, .iface 107 (.int .i64 k), .bool true] w fun e w' => e = .returned (.bool (decide (i = k))) ∧ Gr w w' := by
  have nI := is_noIs
  have nU := is_noUnwrap
  have nV := is_noUnwraps
  have fI := isF_noIs
  have fU := isF_hasUnwrap
  have heq := is_eql i k
  have hty := fun (x : Value) => run_eql_iface_types (P := Tryz.prog) 108 107 x (.int .i64 k) Tryz.underlying28 (by decide)
  have hd : (i == k) = decide (i = k) := by rw [Bool.eq_iff_iff]; simp
  rw [hd] at heq
  generalize decide (i = k) = r at heq ⊢
  clear hd
  go_enter Tryz.func99, Tryz.ntmps99
  go_wp2_with fail
  go_loopg [0] d (fun n x wr => EAt w i n x ∧ Gr w wr)
  case atStart => exact ⟨h, by go_grown⟩
  case round =>
    obtain ⟨hx, gwr⟩ := hrel
    clear h
    cases gk with
    | zero =>
      obtain rfl := hx
      cases r
      all_goals
        go_wp2
        go_ret
        exact ⟨rfl, by have gg := gwr; have gs := gg.size; go_grown⟩
    | succ n =>
      obtain ⟨B, u, rfl, hc, hu⟩ := hx
      have hc2 := cell_gr gwr hc
      have HU := Lib.hid hu
      have hB := World.block_lt_of_cell? _ _ hc2
      clear hc
      rcases eAt_form hu with ⟨x, rfl⟩ | ⟨x, rfl⟩
      all_goals
        clear hu
        go_wp2
        go_roundg n
        case measure => omega
        case rel => exact ⟨HU.out, by have gg := gwr; have gs := gg.size; go_grown⟩
set_option maxHeartbeats 2000000 in
set_option maxRecDepth 100000 in
theorem c_Is_deep (d : Nat) (v : Value) (i k : Int) (w : World) (h : EAt w i d v) : Calls Tryz.prog 62 #[v, .iface 107 (.int .i64 k)] w fun e w' => e = .returned (.bool (decide (i = k))) ∧ Gr w w' := by
  have tT := is_typeOf (.int .i64 k)
  have cT := is_comparable
  generalize Tryz.prog.globals.size = n at tT cT
  have A1 := fun wr (g : Gr w wr) => c_is_deep d v i k wr (eAt_gr h g)
  generalize decide (i = k) = r at A1 ⊢
  rcases eAt_form h with ⟨x, rfl⟩ | ⟨x, rfl⟩
  all_goals
    have H1 := Lib.hid A1
    clear A1
    clear h
    go_enter Tryz.func62, Tryz.ntmps62
    go_wp2_with (go_at_call 99; (with_reducible refine (H1.out _ (by go_grown)).mono ?_); rintro e w1 ⟨rfl, g1⟩)
    go_ret
    exact ⟨rfl, Gr.trans (by go_grown) g1⟩
theorem c_Code_deep {v : Value} {k d : Nat} (hk : 1 ≤ k ∧ k ≤ 15) (w : World) (h : EAt w k d v) : Calls Tryz.prog 19 #[v] w fun e w' => e = .returned (.int .i64 k) ∧ Gr w w' := by
  have A : ∀ (i : Nat) wr, Gr w wr → Calls Tryz.prog 62 #[v, .iface 107 (.int .i64 i)] wr fun e w' => e = .returned (.bool (decide (k = i))) ∧ Gr wr w' := fun i wr g => by
    have C := c_Is_deep d v k i wr (eAt_gr h g)
    rwa [show decide ((k : Int) = (i : Int)) = decide (k = i) by rw [decide_eq_decide]; omega] at C
  rcases eAt_form h with ⟨x, rfl⟩ | ⟨x, rfl⟩
  · exact code_core _ _ k hk w (Or.inr rfl) A
  · exact code_core _ _ k hk w (Or.inl rfl) A
theorem c_Code_oerr {v : Value} {k : Nat} (w : World) (h : OErr w v k) : Calls Tryz.prog 19 #[v] w fun e w' => e = .returned (.int .i64 k) ∧ Gr w w' := by
  rcases h with ⟨rfl, rfl⟩ | ⟨h1, h2, d, h⟩
  · exact c_Code_nil2 w
  · exact c_Code_deep ⟨h1, h2⟩ w h
set_option maxHeartbeats 4000000 in
set_option maxRecDepth 100000 in
theorem c_AlIs_hitW (b d : Nat) (u : Value) (op : ByteArray) (id : Int) (k : Nat) (hk : 1 ≤ k ∧ k ≤ 15) (W : World) (hE : ErrT W) (h0 : W.cell? ⟨b, 0, none⟩ = some (.string op)) (h1 : W.cell? ⟨b, 1, none⟩ = some (.int .i64 id)) (h2 : W.cell? ⟨b, 2, none⟩ = some u) (h3 : EAt W k d u) :
    Calls Tryz.prog 14 #[.iface 108 (.pointer (some ⟨b, 0, none⟩)), .int .i64 k, .string op, .int .i64 id] W fun e w' => e = .returned (.bool true) ∧ Gr W w' := by
  have H1 := Lib.hid (c_Code_deep (v := .iface 108 (.pointer (some ⟨b, 0, none⟩))) (d := d + 1) hk W ⟨b, u, rfl, h2, h3⟩)
  have hb := World.block_lt_of_cell? _ _ h0
  have t1 : ((k : Int) == 0) = false := by simp; omega
  have t2 : (k == 0) = false := by simp; omega
  have HH := Lib.hid (And.intro hE (And.intro h0 h1))
  clear hE h0 h1 h2 h3 hk
  go_enter Tryz.func14, Tryz.ntmps14
  go_wp2_with fail
  go_at_call 19
  refine ((H1.out)).mono ?_
  rintro e w1 ⟨rfl, hw1⟩
  have gw1 : Gr W w1 := Gr.trans (by go_grown) hw1
  clear hw1
  have hx : (w1.alloc (.cells #[.pointer none] 108)).cell? ⟨w1.heap.size, 0, none⟩ = some (.pointer none) := by go_simp
  have hy : (w1.alloc (.cells #[.pointer none] 108)).frozen? ⟨w1.heap.size, 0, none⟩ = false := by go_simp
  have A := as_hit ⟨b, 0, none⟩ ⟨w1.heap.size, 0, none⟩ (.pointer none) (w1.alloc (.cells #[.pointer none] 108)) (errT_gr HH.out.1 (by have gg := gw1; have gs := gg.size; go_grown)) hx hy
  have H2 := Lib.hid A
  clear A hx hy
  go_wp2_with fail
  go_at_call 58
  refine H2.out.mono ?_
  rintro e w2 ⟨rfl, wx, gx, rfl⟩
  have gWx : Gr W wx := Gr.trans (by have gg := gw1; have gs := gg.size; go_grown) gx
  have sz := gx.size
  have F0 := cell_gr gWx HH.out.2.1
  have F1 := cell_gr gWx HH.out.2.2
  have hb1 : b < w1.heap.size := Nat.lt_of_lt_of_le hb gw1.size
  have hz : w1.heap.size < wx.heap.size := by simp at sz; omega
  have c0 : wx.cell? ⟨w1.heap.size, 0, none⟩ = some (.pointer none) := cell_gr gx (by go_simp)
  clear gx sz H2 H1
  go_wp2_with fail
  go_ret
  exact ⟨rfl, by have gg := gWx; have gs := gg.size; have g1 := gw1.size; go_grown⟩
theorem c_AlIs_werr {op : ByteArray} {v : Value} {id : Int} {k : Nat} (W : World) (hE : ErrT W) (h : WErr op W v id k) : Calls Tryz.prog 14 #[v, .int .i64 k, .string op, .int .i64 id] W fun e w' => e = .returned (.bool true) ∧ Gr W w' := by
  rcases h with ⟨rfl, rfl⟩ | ⟨B, u, d, rfl, h2, h3, h4, h5, h6, h7⟩
  · exact c_AlIs_nil op id W
  · exact c_AlIs_hitW B d u op id k ⟨h2, h3⟩ W hE h4 h5 h6 h7
end Go.Proofs.YtpomllpplpalkaaGreatDoor
