/- slots: an empty page takes its first bytes; what the document fixes; SlotsNothing -/
import Derived.Test.YtbjckoelgpbaaaaGreatDoorSa
import Derived.Lib.SlBytesConst
namespace Go.Proofs.YtbjckoelgpbaaaaGreatDoor
set_option linter.unusedVariables false
set_option linter.unusedSimpArgs false
open Go.ChangeShapes Go.WideShapes Go.ChangeAt Go.RowKit

/-- A page: its head, and the slice of its slots. -/
def PageAt (w : World) (B : Nat) (kd id : Int) (s : Value) : Prop := w.cell? ⟨B, 0, none⟩ = some (.bool true) ∧ w.cell? ⟨B, 1, none⟩ = some (.int .i64 kd) ∧ w.cell? ⟨B, 2, none⟩ = some (.int .i64 id) ∧ w.cell? ⟨B, 3, none⟩ = some s ∧ w.frozen? ⟨B, 3, none⟩ = false
theorem pageAt_gr {a b : World} {B : Nat} {kd id : Int} {s : Value} (h : PageAt a B kd id s) (g : Gr a b) : PageAt b B kd id s :=
  ⟨cell_gr g h.1, cell_gr g h.2.1, cell_gr g h.2.2.1, cell_gr g h.2.2.2.1, frozen_gr g h.2.2.2.1 h.2.2.2.2⟩
theorem p_none {B : Nat} {kd id : Int} {s : Value} (W : World) (h : PageAt W B kd id s) : Calls Tryz.prog 78 #[.pointer (some ⟨B, 0, none⟩)] W fun e w' => e = .returned (.bool false) ∧ Gr W w' := by
  obtain ⟨p0, -⟩ := h
  have hB := World.block_lt_of_cell? _ _ p0
  go_enter Tryz.func78, Tryz.ntmps78
  go_wp2_with fail
  go_ret
  exact ⟨rfl, by go_grown⟩
theorem p_has0 {B : Nat} {kd id : Int} (W : World) (h : PageAt W B kd id (.slice none 0 0)) : Calls Tryz.prog 108 #[.pointer (some ⟨B, 0, none⟩), .int .i64 0] W fun e w' => e = .returned (.bool false) ∧ Gr W w' := by
  have A1 := fun w (g : Gr W w) => p_none w (pageAt_gr h g)
  obtain ⟨p0, p1, p2, p3, f3⟩ := h
  have hB := World.block_lt_of_cell? _ _ p0
  have H1 := Lib.hid A1
  clear A1
  go_enter Tryz.func108, Tryz.ntmps108
  go_wp2_with fail
  go_at_call 78
  refine ((H1.out _ (by go_grown))).mono ?_
  rintro e w1 ⟨rfl, hw1⟩
  have cw1_0_0 : w1.cell? ⟨B, 0, none⟩ = some (.bool true) := cell_gr hw1 (by go_simp)
  have cw1_0_1 : w1.cell? ⟨B, 1, none⟩ = some (.int .i64 kd) := cell_gr hw1 (by go_simp)
  have cw1_0_2 : w1.cell? ⟨B, 2, none⟩ = some (.int .i64 id) := cell_gr hw1 (by go_simp)
  have cw1_0_3 : w1.cell? ⟨B, 3, none⟩ = some (.slice none 0 0) := cell_gr hw1 (by go_simp)
  have zw1_0 : B < w1.heap.size := World.block_lt_of_cell? _ _ cw1_0_0
  have gw1 : Gr W w1 := Gr.trans (by go_grown) hw1
  clear hw1
  go_wp2_with fail
  go_ret
  exact ⟨rfl, gw1⟩
theorem p_used0 {B : Nat} {kd id : Int} (W : World) (h : PageAt W B kd id (.slice none 0 0)) : Calls Tryz.prog 109 #[.pointer (some ⟨B, 0, none⟩)] W fun e w' => e = .returned (.int .i64 16) ∧ Gr W w' := by
  obtain ⟨p0, p1, p2, p3, f3⟩ := h
  have hB := World.block_lt_of_cell? _ _ p0
  go_enter Tryz.func109, Tryz.ntmps109
  go_wp2_with fail
  go_loopg [3, 18] 0 (fun k x y wr => x = .int .i64 16 ∧ y = .int .i64 0 ∧ Gr W wr)
  case atStart => exact ⟨rfl, rfl, by go_grown⟩
  case round =>
    obtain ⟨rfl, rfl, hg⟩ := hrel
    go_wp2_with fail
    go_ret
    exact ⟨rfl, by go_grown⟩
theorem eqNil (ad : Addr) (m cap : Nat) (w : World) : (binOp .eql 109 (.slice (some ad) m cap) (.slice none 0 0)).run Tryz.prog w = .ok (.bool false) w := by kernel_rfl
set_option maxRecDepth 100000 in
/-- A slice that is not nil is copied. -/
theorem c_bClone {L : List UInt8} (ad : Addr) (m cap : Nat) (W : World) (h : Row W (.slice (some ad) m cap) L) (h0 : 0 < m) (hl : L.length ≤ 100000) :
    Calls Tryz.prog 107 #[.slice (some ad) m cap] W fun e w' => ∃ g c, e = .returned (.slice (some ⟨g, 0, none⟩) m c) ∧ Own w' W.heap.size (.slice (some ⟨g, 0, none⟩) m c) L ∧ Gr W w' := by
  have hlm : L.length = m := by obtain ⟨_, _, _, _, e, _⟩ := h; cases e; rfl
  have O1 : ∀ (w : World), Own (w.alloc (.cells #[] 5)) w.heap.size (.slice (some ⟨w.heap.size, 0, none⟩) 0 0) [] := fun w =>
    World.ownsRow_lit (base := w.heap.size) (e := 5) (size := 1) w #[] 0 (Nat.le_refl _) (by decide) (by simp)
  have hE := fun w => eqNil ad m cap w
  have H1 := Lib.hid O1
  clear O1
  go_enter Tryz.func107, Tryz.ntmps107
  go_wp2_with (at_builtin; go_loud ((refine wpList_app rfl (.tmp 5) (.tmp 6) rfl W.heap.size (.slice (some ⟨W.heap.size, 0, none⟩) 0 0) (.slice (some ad) m cap) [] L rfl (H1.out W) rfl (row_gr h (by go_grown)) (by simp; omega) (by simp) ?_); intro x2 w2 o2 g2; (have G2 : Gr W w2 := g2.gr (by go_grown) (fun k hk => (World.ownsRow.lt (H1.out W) k hk).1))))
  have o3 : Own w2 W.heap.size x2 L := by simpa using o2
  obtain ⟨g, c, rfl, -⟩ := row_form o3 (by omega)
  rw [hlm] at o3 ⊢
  go_wp2_with fail
  go_ret
  exact ⟨g, c, rfl, o3, by go_grown⟩
theorem newsS {w : World} {B : Nat} {a b : Value} (h0 : w.cell? ⟨B, 0, none⟩ = some a) (h1 : w.cell? ⟨B, 1, none⟩ = some b) : ∀ j u, [a, b][j]? = some u → w.cell? ((⟨B, 0, none⟩ : Addr).add j) = some u := by
  intro j u hj
  have e : (⟨B, 0, none⟩ : Addr).add j = ⟨B, j, none⟩ := by unfold Addr.add; split <;> simp_all
  rw [e]
  match j, hj with
  | 0, hj => simp at hj; subst hj; exact h0
  | 1, hj => simp at hj; subst hj; exact h1
  | j + 2, hj => simp at hj
/-- What may have turned: a block, and new ones. -/
abbrev onN (B n : Nat) : Nat → Prop := fun k => k = B ∨ n ≤ k
/-- A page with one slot, of one byte. -/
def Page1 (w : World) (B : Nat) (kd id : Int) : Prop := ∃ (C cp : Nat) (ad : Option Addr) (c : Nat), PageAt w B kd id (.slice (some ⟨C, 0, none⟩) 1 cp) ∧ w.cell? ⟨C, 0, none⟩ = some (.bool true) ∧ w.cell? ⟨C, 1, none⟩ = some (.slice ad 1 c)
theorem row_set {w : World} {ad : Addr} {m c : Nat} {L : List UInt8} {p : Addr} (h : Row w (.slice (some ad) m c) L) (hn : ad.block ≠ p.block) (u : Value) : Row (w.setCell p u) (.slice (some ad) m c) L := by
  obtain ⟨ad', cap, B, off, e, h1, h2, h3, h4⟩ := h
  cases e
  refine ⟨some ad, c, B, off, rfl, h1, h2, h3, fun j hj => ?_⟩
  have e2 := Option.some.inj (h3 (by omega))
  exact (World.cell?_of_block (w := w) (Below.heap_setCell w p u B (fun e => hn (by rw [e2]; exact e)))).trans (h4 j hj)
theorem page1_gr {a b : World} {B : Nat} {kd id : Int} (h : Page1 a B kd id) (g : Gr a b) : Page1 b B kd id := by
  obtain ⟨C, cp, ad, c, h1, h2, h3⟩ := h
  exact ⟨C, cp, ad, c, pageAt_gr h1 g, cell_gr g h2, cell_gr g h3⟩
theorem p_used1 {B : Nat} {kd id : Int} (W : World) (h : Page1 W B kd id) : Calls Tryz.prog 109 #[.pointer (some ⟨B, 0, none⟩)] W fun e w' => e = .returned (.int .i64 21) ∧ Gr W w' := by
  obtain ⟨C, cp, ad, c, ⟨p0, p1, p2, p3, f3⟩, q0, q1⟩ := h
  have hB := World.block_lt_of_cell? _ _ p0
  have hC := World.block_lt_of_cell? _ _ q0
  go_enter Tryz.func109, Tryz.ntmps109
  go_wp2_with fail
  go_loopg [3, 18] 1 (fun k x y wr => ((k = 1 ∧ x = .int .i64 20 ∧ y = .int .i64 0) ∨ (k = 0 ∧ x = .int .i64 21 ∧ y = .int .i64 1)) ∧ Gr W wr)
  case atStart => exact ⟨Or.inl ⟨rfl, rfl, rfl⟩, by go_grown⟩
  case round =>
    obtain ⟨hx, hg⟩ := hrel
    have r0 := cell_gr hg q0
    have r1 := cell_gr hg q1
    rcases hx with ⟨rfl, rfl, rfl⟩ | ⟨rfl, rfl, rfl⟩
    · go_wp2_with fail
      go_roundg 0
      case measure => omega
      case rel => exact ⟨Or.inr ⟨rfl, rfl, rfl⟩, by have gs := hg.size; go_grown⟩
    · go_wp2_with fail
      go_ret
      exact ⟨rfl, by have gs := hg.size; go_grown⟩
theorem p_none1 {B : Nat} {kd id : Int} (W : World) (h : Page1 W B kd id) : Calls Tryz.prog 78 #[.pointer (some ⟨B, 0, none⟩)] W fun e w' => e = .returned (.bool false) ∧ Gr W w' := by
  obtain ⟨C, cp, ad, c, h1, -⟩ := h
  exact p_none W h1
set_option maxRecDepth 100000 in
theorem p_id {B : Nat} {kd id : Int} {s : Value} (W : World) (h : PageAt W B kd id s) : Calls Tryz.prog 44 #[.pointer (some ⟨B, 0, none⟩)] W fun e w' => e = .returned (.int .i64 id) ∧ Gr W w' := by
  have A1 := fun w (g : Gr W w) => p_none w (pageAt_gr h g)
  obtain ⟨p0, p1, p2, p3, f3⟩ := h
  have hB := World.block_lt_of_cell? _ _ p0
  have H1 := Lib.hid A1
  clear A1
  go_enter Tryz.func44, Tryz.ntmps44
  go_wp2_with fail
  go_at_call 78
  refine ((H1.out _ (by go_grown))).mono ?_
  rintro e w1 ⟨rfl, hw1⟩
  have cw1_0_0 : w1.cell? ⟨B, 0, none⟩ = some (.bool true) := cell_gr hw1 (by go_simp)
  have cw1_0_1 : w1.cell? ⟨B, 1, none⟩ = some (.int .i64 kd) := cell_gr hw1 (by go_simp)
  have cw1_0_2 : w1.cell? ⟨B, 2, none⟩ = some (.int .i64 id) := cell_gr hw1 (by go_simp)
  have zw1_0 : B < w1.heap.size := World.block_lt_of_cell? _ _ cw1_0_0
  have gw1 : Gr W w1 := Gr.trans (by go_grown) hw1
  clear hw1
  go_wp2_with fail
  go_ret
  exact ⟨rfl, by have gg := gw1; have gs := gg.size; go_grown⟩
theorem p_new (W : World) : Calls Tryz.prog 60 #[.int .i64 1, .int .i64 7] W fun e w' => ∃ B, e = .returned (.tuple #[.pointer (some ⟨B, 0, none⟩), .nilIface]) ∧ W.heap.size ≤ B ∧ PageAt w' B 1 7 (.slice none 0 0) ∧ Gr W w' := by
  go_enter Tryz.func60, Tryz.ntmps60
  go_wp2_with fail
  go_ret2
  exact ⟨_, rfl, Nat.le_refl _, ⟨by go_simp, by go_simp, by go_simp, by go_simp, by go_simp⟩, by go_grown⟩
theorem row_a (w : World) : Row (w.alloc (.cells #[.int .u8 97] 5 (1, 2))) (.slice (some ⟨w.heap.size, 0, none⟩) 1 1) [97] :=
  ⟨some ⟨w.heap.size, 0, none⟩, 1, w.heap.size, 0, rfl, Nat.le_refl _, by decide, fun _ => rfl, fun j hj => by
    obtain rfl : j = 0 := by simpa using hj
    exact World.cell?_alloc_mark w #[.int .u8 97] 5 (1, 2) 0⟩
theorem make500 : ∃ o : Obj, ∀ w : World, (Instr.makeSlice 109 (.int .i64 500) (.int .i64 500)).run Tryz.prog w = .ok (.slice (some ⟨w.heap.size, 0, none⟩) 500 500) (w.alloc o) :=
  ⟨.cells (Array.replicate 500 (.int .u8 0)) 5, fun w => by kernel_rfl⟩
end Go.Proofs.YtbjckoelgpbaaaaGreatDoor
