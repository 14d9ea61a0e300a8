/- heap: contracts of the order -/
import Derived.Test.YtldlpbfncgcimaaHb
namespace Go.Proofs.Ytldlpbfncgcimaa
set_option linter.unusedVariables false
open Go.ChangeShapes Go.WideShapes Go.ChangeAt Go.RowKit

theorem c_compareFrom (a b : En) (ha : a.ok) (hb : b.ok) (W : World) : Calls Try.prog 40 #[.int .i64 0, .agg #[.int .i64 (a).id, .int .u64 (a).hi, .int .u64 (a).lo, .int .u64 (a).den, .bool (a).item, .int .i64 (a).node], .agg #[.int .i64 (b).id, .int .u64 (b).hi, .int .u64 (b).lo, .int .u64 (b).den, .bool (b).item, .int .i64 (b).node]] W fun e w' => e = .returned (.int .i64 (cmpE a b)) ∧ Gr W w' := by
  obtain ⟨h0, h1, h2, h3, h4⟩ := ha
  obtain ⟨k0, k1, k2, k3, k4⟩ := hb
  refine from_core a.id a.hi a.lo a.den a.item a.node b.id b.hi b.lo b.den b.item b.node (cmpD (val a.hi a.lo) a.den (val b.hi b.lo) b.den) (cmpZ a.kind b.kind) (cmpZ a.num b.num) (cmpE a b) a.kind b.kind a.num b.num W
    (fun w => c_rtCompare a.hi a.lo a.den b.hi b.lo b.den h1 h2 h3 k1 k2 k3 w) (fun w => c_kind _ _ _ _ _ _ w) (fun w => c_kind _ _ _ _ _ _ w) (fun w => c_cmpInt _ _ w)
    (fun w => c_number _ _ _ _ _ _ w) (fun w => c_number _ _ _ _ _ _ w) (fun w => c_cmpInt _ _ w) ?_
  unfold cmpE lexC
  by_cases e1 : cmpD (val a.hi a.lo) a.den (val b.hi b.lo) b.den = 0
  · by_cases e2 : cmpZ a.kind b.kind = 0
    · right; right; simp [e1, e2]
    · right; left; simp [e1, e2]
  · left; simp [e1]
/-- The order of entries. -/
def ltE : En → En → Bool := ltC cmpE
set_option maxHeartbeats 2000000 in
set_option maxRecDepth 100000 in
theorem c_hLess (a b : En) (ha : a.ok) (hb : b.ok) (W : World) : Calls Try.prog 30 #[.agg #[.int .i64 (a).id, .int .u64 (a).hi, .int .u64 (a).lo, .int .u64 (a).den, .bool (a).item, .int .i64 (a).node], .agg #[.int .i64 (b).id, .int .u64 (b).hi, .int .u64 (b).lo, .int .u64 (b).den, .bool (b).item, .int .i64 (b).node]] W fun e w' => e = .returned (.bool (ltE a b)) ∧ Gr W w' := by
  have A1 := fun w => c_compareFrom a b ha hb w
  have e : ltE a b = decide (cmpE a b < 0) := rfl
  rw [e]
  obtain ⟨r, hr⟩ : ∃ r, r = cmpE a b := ⟨_, rfl⟩
  rw [← hr] at A1 ⊢
  have H1 := Lib.hid A1
  clear A1
  clear hr e
  go_enter Try.func30, Try.ntmps30
  go_wp2_with fail
  go_at_call 40
  refine ((H1.out _)).mono ?_
  rintro e w1 ⟨rfl, hw1⟩
  have gw1 : Gr W w1 := Gr.trans (by go_grown) hw1
  clear hw1
  go_wp2_with fail
  go_ret
  exact ⟨rfl, gw1⟩
/-- What is pushed, and which push brought it. -/
structure Nu where
  e : En
  k : Nat
def Nu.cs (x : Nu) : List Value := [.int .i64 x.e.id, .int .u64 x.e.hi, .int .u64 x.e.lo, .int .u64 x.e.den, .bool x.e.item, .int .i64 x.e.node, .int .i64 x.k]
def cmpNu : Nu → Nu → Int := lexC (fun a b => cmpE a.e b.e) (fun a b => cmpZ a.k b.k)
theorem cmpNu_Cmp : Cmp cmpNu := Cmp.lex ⟨fun a b => cmpE_Cmp.1 _ _, fun a b d => cmpE_Cmp.2 _ _ _⟩ (cmpZ_Cmp _)
def ltN : Nu → Nu → Bool := ltC cmpNu
theorem ltN_ord : Hp.Ord ltN := cmpNu_Cmp.ord
theorem ltE_ord : Hp.Ord ltE := cmpE_Cmp.ord
theorem ltN_eq (a b : Nu) : ltN a b = (decide (cmpE a.e b.e < 0) || (decide (cmpE a.e b.e = 0) && decide (a.k < b.k))) := by
  unfold ltN ltC cmpNu lexC
  by_cases h : cmpE a.e b.e = 0
  · have : cmpZ a.k b.k < 0 ↔ a.k < b.k := by unfold cmpZ; split <;> (try split) <;> omega
    simp [h, this]
  · simp [h]
set_option maxHeartbeats 2000000 in
set_option maxRecDepth 100000 in
theorem ahead_core (ai ah al ad : Int) (ab : Bool) (an : Int) (ak : Nat) (bi bh bl bd : Int) (bb : Bool) (bn : Int) (bk : Nat) (r : Int) (q : Bool) (W : World)
    (A1 : ∀ w, Calls Try.prog 40 #[.int .i64 0, .agg #[.int .i64 ai, .int .u64 ah, .int .u64 al, .int .u64 ad, .bool ab, .int .i64 an], .agg #[.int .i64 bi, .int .u64 bh, .int .u64 bl, .int .u64 bd, .bool bb, .int .i64 bn]] w fun e w' => e = .returned (.int .i64 r) ∧ Gr w w')
    (h : (decide (r < 0) = true ∧ q = true) ∨ (decide (r < 0) = false ∧ (r == 0) = false ∧ q = false) ∨ (decide (r < 0) = false ∧ (r == 0) = true ∧ q = decide ((ak : Int) < (bk : Int)) ∧ q = decide (ak < bk))) :
    Calls Try.prog 36 #[.agg #[.int .i64 ai, .int .u64 ah, .int .u64 al, .int .u64 ad, .bool ab, .int .i64 an, .int .i64 ak], .agg #[.int .i64 bi, .int .u64 bh, .int .u64 bl, .int .u64 bd, .bool bb, .int .i64 bn, .int .i64 bk]] W fun e w' => e = .returned (.bool q) ∧ Gr W w' := by
  have H1 := Lib.hid A1
  clear A1
  rcases h with ⟨t1, rfl⟩ | ⟨t1, t2, rfl⟩ | ⟨t1, t2, t3, t4⟩
  · go_enter Try.func36, Try.ntmps36
    go_wp2_with fail
    go_at_call 40
    refine ((H1.out _)).mono ?_
    rintro e w1 ⟨rfl, hw1⟩
    have gw1 : Gr W w1 := Gr.trans (by go_grown) hw1
    clear hw1
    go_wp2_with fail
    go_ret
    exact ⟨rfl, gw1⟩
  · go_enter Try.func36, Try.ntmps36
    go_wp2_with fail
    go_at_call 40
    refine ((H1.out _)).mono ?_
    rintro e w1 ⟨rfl, hw1⟩
    have gw1 : Gr W w1 := Gr.trans (by go_grown) hw1
    clear hw1
    go_wp2_with fail
    go_ret
    exact ⟨rfl, gw1⟩
  · have t5 := t3.symm
    have t6 := t4.symm
    clear t3 t4
    go_enter Try.func36, Try.ntmps36
    go_wp2_with fail
    go_at_call 40
    refine ((H1.out _)).mono ?_
    rintro e w1 ⟨rfl, hw1⟩
    have cw1_0_0 : w1.cell? ⟨W.heap.size, 0, none⟩ = some (.int .i64 ai) := cell_gr hw1 (by go_simp)
    have cw1_0_1 : w1.cell? ⟨W.heap.size, 1, none⟩ = some (.int .u64 ah) := cell_gr hw1 (by go_simp)
    have cw1_0_2 : w1.cell? ⟨W.heap.size, 2, none⟩ = some (.int .u64 al) := cell_gr hw1 (by go_simp)
    have cw1_0_3 : w1.cell? ⟨W.heap.size, 3, none⟩ = some (.int .u64 ad) := cell_gr hw1 (by go_simp)
    have cw1_0_4 : w1.cell? ⟨W.heap.size, 4, none⟩ = some (.bool ab) := cell_gr hw1 (by go_simp)
    have cw1_0_5 : w1.cell? ⟨W.heap.size, 5, none⟩ = some (.int .i64 an) := cell_gr hw1 (by go_simp)
    have cw1_0_6 : w1.cell? ⟨W.heap.size, 6, none⟩ = some (.int .i64 ak) := cell_gr hw1 (by go_simp)
    have zw1_0 : W.heap.size < w1.heap.size := World.block_lt_of_cell? _ _ cw1_0_0
    have cw1_1_0 : w1.cell? ⟨W.heap.size + 1, 0, none⟩ = some (.int .i64 bi) := cell_gr hw1 (by go_simp)
    have cw1_1_1 : w1.cell? ⟨W.heap.size + 1, 1, none⟩ = some (.int .u64 bh) := cell_gr hw1 (by go_simp)
    have cw1_1_2 : w1.cell? ⟨W.heap.size + 1, 2, none⟩ = some (.int .u64 bl) := cell_gr hw1 (by go_simp)
    have cw1_1_3 : w1.cell? ⟨W.heap.size + 1, 3, none⟩ = some (.int .u64 bd) := cell_gr hw1 (by go_simp)
    have cw1_1_4 : w1.cell? ⟨W.heap.size + 1, 4, none⟩ = some (.bool bb) := cell_gr hw1 (by go_simp)
    have cw1_1_5 : w1.cell? ⟨W.heap.size + 1, 5, none⟩ = some (.int .i64 bn) := cell_gr hw1 (by go_simp)
    have cw1_1_6 : w1.cell? ⟨W.heap.size + 1, 6, none⟩ = some (.int .i64 bk) := cell_gr hw1 (by go_simp)
    have zw1_1 : W.heap.size + 1 < w1.heap.size := World.block_lt_of_cell? _ _ cw1_1_0
    have gw1 : Gr W w1 := Gr.trans (by go_grown) hw1
    clear hw1
    go_wp2_with fail
    go_ret
    exact ⟨rfl, gw1⟩
theorem c_ahead (a b : Nu) (ha : a.e.ok) (hb : b.e.ok) (W : World) : Calls Try.prog 36 #[.agg #[.int .i64 (a.e).id, .int .u64 (a.e).hi, .int .u64 (a.e).lo, .int .u64 (a.e).den, .bool (a.e).item, .int .i64 (a.e).node, .int .i64 (a).k], .agg #[.int .i64 (b.e).id, .int .u64 (b.e).hi, .int .u64 (b.e).lo, .int .u64 (b.e).den, .bool (b.e).item, .int .i64 (b.e).node, .int .i64 (b).k]] W fun e w' => e = .returned (.bool (ltN a b)) ∧ Gr W w' := by
  refine ahead_core a.e.id a.e.hi a.e.lo a.e.den a.e.item a.e.node a.k b.e.id b.e.hi b.e.lo b.e.den b.e.item b.e.node b.k (cmpE a.e b.e) _ W (fun w => c_compareFrom a.e b.e ha hb w) ?_
  rw [ltN_eq]
  by_cases h : cmpE a.e b.e < 0
  · left; simp [h]
  · right
    by_cases h0 : cmpE a.e b.e = 0
    · right; simp [h0]
    · left; simp [h0]; omega
end Go.Proofs.Ytldlpbfncgcimaa
