/- slots: an empty page takes its first bytes; what the document fixes; SlotsNothing -/
import Derived.Test.YtkbdhhmkdjajgaaDoorSa
import Derived.Lib.SlBytesConst
namespace Go.Proofs.YtkbdhhmkdjajgaaDoor
set_option linter.unusedVariables false
set_option linter.unusedSimpArgs false
open Go.ChangeShapes Go.WideShapes Go.ChangeAt Go.RowKit

/-- A page: its head, and the slice of its slots. -/
def PageAt (w : World) (B : Nat) (kd id : Int) (s : Value) : Prop := w.cell? ⟨B, 0, none⟩ = some (.bool true) ∧ w.cell? ⟨B, 1, none⟩ = some (.int .i64 kd) ∧ w.cell? ⟨B, 2, none⟩ = some (.int .i64 id) ∧ w.cell? ⟨B, 3, none⟩ = some s ∧ w.frozen? ⟨B, 3, none⟩ = false
theorem pageAt_gr {a b : World} {B : Nat} {kd id : Int} {s : Value} (h : PageAt a B kd id s) (g : Gr a b) : PageAt b B kd id s :=
  ⟨cell_gr g h.1, cell_gr g h.2.1, cell_gr g h.2.2.1, cell_gr g h.2.2.2.1, frozen_gr g h.2.2.2.1 h.2.2.2.2⟩
theorem eqNil (ad : Addr) (m cap : Nat) (w : World) : (binOp .eql 37 (.slice (some ad) m cap) (.slice none 0 0)).run Tryd.prog w = .ok (.bool false) w := by kernel_rfl
theorem newsS {w : World} {B : Nat} {a b : Value} (h0 : w.cell? ⟨B, 0, none⟩ = some a) (h1 : w.cell? ⟨B, 1, none⟩ = some b) : ∀ j u, [a, b][j]? = some u → w.cell? ((⟨B, 0, none⟩ : Addr).add j) = some u := by
  intro j u hj
  have e : (⟨B, 0, none⟩ : Addr).add j = ⟨B, j, none⟩ := by unfold Addr.add; split <;> simp_all
  rw [e]
  match j, hj with
  | 0, hj => simp at hj; subst hj; exact h0
  | 1, hj => simp at hj; subst hj; exact h1
  | j + 2, hj => simp at hj
/-- What may have turned: a block, and new ones. -/
abbrev onN (B n : Nat) : Nat → Prop := fun k => k = B ∨ n ≤ k
/-- A page with one slot, of one byte. -/
def Page1 (w : World) (B : Nat) (kd id : Int) : Prop := ∃ (C cp : Nat) (ad : Option Addr) (c : Nat), PageAt w B kd id (.slice (some ⟨C, 0, none⟩) 1 cp) ∧ w.cell? ⟨C, 0, none⟩ = some (.bool true) ∧ w.cell? ⟨C, 1, none⟩ = some (.slice ad 1 c)
theorem row_set {w : World} {ad : Addr} {m c : Nat} {L : List UInt8} {p : Addr} (h : Row w (.slice (some ad) m c) L) (hn : ad.block ≠ p.block) (u : Value) : Row (w.setCell p u) (.slice (some ad) m c) L := by
  obtain ⟨ad', cap, B, off, e, h1, h2, h3, h4⟩ := h
  cases e
  refine ⟨some ad, c, B, off, rfl, h1, h2, h3, fun j hj => ?_⟩
  have e2 := Option.some.inj (h3 (by omega))
  exact (World.cell?_of_block (w := w) (Below.heap_setCell w p u B (fun e => hn (by rw [e2]; exact e)))).trans (h4 j hj)
theorem page1_gr {a b : World} {B : Nat} {kd id : Int} (h : Page1 a B kd id) (g : Gr a b) : Page1 b B kd id := by
  obtain ⟨C, cp, ad, c, h1, h2, h3⟩ := h
  exact ⟨C, cp, ad, c, pageAt_gr h1 g, cell_gr g h2, cell_gr g h3⟩
theorem row_a (w : World) : Row (w.alloc (.cells #[.int .u8 97] 5 (1, 2))) (.slice (some ⟨w.heap.size, 0, none⟩) 1 1) [97] :=
  ⟨some ⟨w.heap.size, 0, none⟩, 1, w.heap.size, 0, rfl, Nat.le_refl _, by decide, fun _ => rfl, fun j hj => by
    obtain rfl : j = 0 := by simpa using hj
    exact World.cell?_alloc_mark w #[.int .u8 97] 5 (1, 2) 0⟩
theorem make500 : ∃ o : Obj, ∀ w : World, (Instr.makeSlice 37 (.int .i64 500) (.int .i64 500)).run Tryd.prog w = .ok (.slice (some ⟨w.heap.size, 0, none⟩) 500 500) (w.alloc o) :=
  ⟨.cells (Array.replicate 500 (.int .u8 0)) 5, fun w => by kernel_rfl⟩
end Go.Proofs.YtkbdhhmkdjajgaaDoor
