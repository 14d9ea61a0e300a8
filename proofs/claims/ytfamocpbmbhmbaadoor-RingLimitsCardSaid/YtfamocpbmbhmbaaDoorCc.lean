/- an error held against a number, an op and an id -/
import Derived.Test.YtfamocpbmbhmbaaDoorCb
import Derived.Deep.LoopGhost
namespace Go.Proofs.YtfamocpbmbhmbaaDoor
set_option linter.unusedVariables false
open Go.ChangeShapes Go.WideShapes Go.ChangeAt Go.RowKit

/-- What the list of the program's variables holds of errors.errorType. -/
def ErrT (w : World) : Prop := w.cell? ⟨0, 0, none⟩ = some (.iface 102 (.agg #[.pointer (some ⟨Tryd.prog.globals.size, 32, none⟩)]))
theorem errT_gr {a b : World} (h : ErrT a) (g : Gr a b) : ErrT b := cell_gr g h
/-- A Fault that wraps a number. -/
def FaultAt (w : World) (b : Nat) (op : ByteArray) (id k : Int) : Prop := w.cell? ⟨b, 0, none⟩ = some (.string op) ∧ w.cell? ⟨b, 1, none⟩ = some (.int .i64 id) ∧ w.cell? ⟨b, 2, none⟩ = some (.iface 69 (.int .i64 k))
theorem faultAt_gr {a b : World} {B : Nat} {op : ByteArray} {id k : Int} (h : FaultAt a B op id k) (g : Gr a b) : FaultAt b B op id k := ⟨cell_gr g h.1, cell_gr g h.2.1, cell_gr g h.2.2⟩

theorem c_Code_nil2 (w : World) : Calls Tryd.prog 31 #[.nilIface] w fun e w' => e = .returned (.int .i64 0) ∧ Gr w w' := by
  go_enter Tryd.func31, Tryd.ntmps31
  go_wp2
  go_ret
  exact ⟨rfl, by go_grown⟩
set_option maxHeartbeats 1000000 in
set_option maxRecDepth 100000 in
/-- The number of an error that is a number, or wraps one. -/
theorem code_core (T : TypeId) (v : Value) (k : Nat) (hk : 1 ≤ k ∧ k ≤ 15) (w : World) (hn : (T = 63 ∨ T = 69))
    (A : ∀ (i : Nat) wr, Gr w wr → Calls Tryd.prog 49 #[.iface T v, .iface 69 (.int .i64 i)] wr fun e w' => e = .returned (.bool (decide (k = i))) ∧ Gr wr w') :
    Calls Tryd.prog 31 #[.iface T v] w fun e w' => e = .returned (.int .i64 k) ∧ Gr w w' := by
  have H1 := Lib.hid A
  have HK := Lib.hid hk
  clear A hk
  rcases hn with rfl | rfl
  all_goals
    go_enter Tryd.func31, Tryd.ntmps31
    go_wp2_with fail
    go_loopg [3] k (fun j v wr => ∃ i : Nat, i + j = k ∧ 1 ≤ i + 1 ∧ v = .int .i64 ((i : Int) + 1) ∧ i < k ∧ Gr w wr)
    case atStart => exact ⟨0, by omega, by omega, rfl, by have := HK.out; omega, by go_grown⟩
    case round =>
      obtain ⟨i, hj, -, rfl, hik, gwr⟩ := hrel
      have t1 : decide ((i : Int) + 1 ≤ 15) = true := decide_eq_true (by have := HK.out; omega)
      have bnd : (i : Int) + 1 ≤ 15 := by have := HK.out; omega
      have C := H1.out (i + 1)
      rw [show (((i + 1 : Nat) : Int)) = (i : Int) + 1 by omega] at C
      by_cases he : k = i + 1
      · rw [decide_eq_true he] at C
        have H2 := Lib.hid C
        have HE := Lib.hid he
        clear C he
        go_wp2_with fail
        go_at_call 49
        refine ((H2.out _ (by have gg := gwr; have gs := gg.size; go_grown))).mono ?_
        rintro e w1 ⟨rfl, hw1⟩
        have gw1 : Gr w w1 := Gr.trans (by have gg := gwr; have gs := gg.size; go_grown) hw1
        clear hw1 gwr
        go_wp2_with fail
        go_ret
        exact ⟨by rw [HE.out]; rfl, by have gg := gw1; have gs := gg.size; go_grown⟩
      · rw [decide_eq_false he] at C
        have H2 := Lib.hid C
        have HE := Lib.hid he
        clear C he
        go_wp2_with fail
        go_at_call 49
        refine ((H2.out _ (by have gg := gwr; have gs := gg.size; go_grown))).mono ?_
        rintro e w1 ⟨rfl, hw1⟩
        have gw1 : Gr w w1 := Gr.trans (by have gg := gwr; have gs := gg.size; go_grown) hw1
        clear hw1 gwr
        go_wp2_with fail
        go_roundg (k - (i + 1))
        case measure => omega
        case rel => exact ⟨i + 1, by omega, by omega, by go_num, by have := HE.out; omega, by have gg := gw1; have gs := gg.size; go_grown⟩
theorem c_CodeF (b : Nat) (k : Nat) (hk : 1 ≤ k ∧ k ≤ 15) (w : World) (hc : w.cell? ⟨b, 2, none⟩ = some (.iface 69 (.int .i64 k))) :
    Calls Tryd.prog 31 #[.iface 63 (.pointer (some ⟨b, 0, none⟩))] w fun e w' => e = .returned (.int .i64 k) ∧ Gr w w' := by
  refine code_core _ _ k hk w (Or.inl rfl) fun i wr g => ?_
  have C := c_Is_fault b k i wr (cell_gr g hc)
  rw [show decide ((k : Int) = (i : Int)) = decide (k = i) by rw [decide_eq_decide]; omega] at C
  exact C
theorem c_CodeE (k : Nat) (hk : 1 ≤ k ∧ k ≤ 15) (w : World) :
    Calls Tryd.prog 31 #[.iface 69 (.int .i64 k)] w fun e w' => e = .returned (.int .i64 k) ∧ Gr w w' := by
  refine code_core _ _ k hk w (Or.inr rfl) fun i wr g => ?_
  have C := c_Is_errno k i wr
  rw [show decide ((k : Int) = (i : Int)) = decide (k = i) by rw [decide_eq_decide]; omega] at C
  exact C
set_option maxRecDepth 100000 in
theorem c_AlIs_nil (op : ByteArray) (id : Int) (w : World) : Calls Tryd.prog 13 #[.nilIface, .int .i64 0, .string op, .int .i64 id] w fun e w' => e = .returned (.bool true) ∧ Gr w w' := by
  go_enter Tryd.func13, Tryd.ntmps13
  go_wp2_with fail
  go_at_call 31
  refine ((c_Code_nil2 _)).mono ?_
  rintro e w1 ⟨rfl, hw1⟩
  have gw1 : Gr w w1 := Gr.trans (by go_grown) hw1
  clear hw1
  go_wp2_with fail
  go_ret
  exact ⟨rfl, gw1⟩
set_option maxHeartbeats 4000000 in
set_option maxRecDepth 100000 in
theorem c_AlIs_hit (b : Nat) (op : ByteArray) (id : Int) (k : Nat) (hk : 1 ≤ k ∧ k ≤ 15) (W : World) (hE : ErrT W) (hF : FaultAt W b op id k) :
    Calls Tryd.prog 13 #[.iface 63 (.pointer (some ⟨b, 0, none⟩)), .int .i64 k, .string op, .int .i64 id] W fun e w' => e = .returned (.bool true) ∧ Gr W w' := by
  have H1 := Lib.hid (c_CodeF b k hk W hF.2.2)
  have hb := World.block_lt_of_cell? _ _ hF.1
  have t1 : ((k : Int) == 0) = false := by simp; omega
  have t2 : (k == 0) = false := by simp; omega
  have HH := Lib.hid (And.intro hE hF)
  clear hE hF hk
  go_enter Tryd.func13, Tryd.ntmps13
  go_wp2_with fail
  go_at_call 31
  refine ((H1.out)).mono ?_
  rintro e w1 ⟨rfl, hw1⟩
  have gw1 : Gr W w1 := Gr.trans (by go_grown) hw1
  clear hw1
  have hx : (w1.alloc (.cells #[.pointer none] 63)).cell? ⟨w1.heap.size, 0, none⟩ = some (.pointer none) := by go_simp
  have hy : (w1.alloc (.cells #[.pointer none] 63)).frozen? ⟨w1.heap.size, 0, none⟩ = false := by go_simp
  have A := as_hit ⟨b, 0, none⟩ ⟨w1.heap.size, 0, none⟩ (.pointer none) (w1.alloc (.cells #[.pointer none] 63)) (errT_gr HH.out.1 (by have gg := gw1; have gs := gg.size; go_grown)) hx hy
  have H2 := Lib.hid A
  clear A hx hy
  go_wp2_with fail
  go_at_call 35
  refine H2.out.mono ?_
  rintro e w2 ⟨rfl, wx, gx, rfl⟩
  have gWx : Gr W wx := Gr.trans (by have gg := gw1; have gs := gg.size; go_grown) gx
  have sz := gx.size
  have F := faultAt_gr HH.out.2 gWx
  obtain ⟨F0, F1, F2⟩ := F
  have hb1 : b < w1.heap.size := Nat.lt_of_lt_of_le hb gw1.size
  have hz : w1.heap.size < wx.heap.size := by simp at sz; omega
  have c0 : wx.cell? ⟨w1.heap.size, 0, none⟩ = some (.pointer none) := cell_gr gx (by go_simp)
  clear gx sz H2 H1
  go_wp2_with fail
  go_ret
  exact ⟨rfl, by have gg := gWx; have gs := gg.size; have g1 := gw1.size; go_grown⟩
end Go.Proofs.YtfamocpbmbhmbaaDoor
