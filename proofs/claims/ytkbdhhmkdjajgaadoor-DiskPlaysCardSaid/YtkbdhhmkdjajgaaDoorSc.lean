/- slots: a page with whatever slots: what it holds; has, leastFree, used, refusal, Free -/
import Derived.Test.YtkbdhhmkdjajgaaDoorSb
import Derived.Test.YtkbdhhmkdjajgaaDoorRo
namespace Go.Proofs.YtkbdhhmkdjajgaaDoor
set_option linter.unusedVariables false
set_option linter.unusedSimpArgs false
open Go.ChangeShapes Go.WideShapes Go.ChangeAt Go.RowKit

/-- A slot's bytes, if it has any. -/
abbrev Sl := Option (List UInt8)
def SlotC (w : World) (Z : Nat → Prop) : Sl → Value → Value → Prop
  | none, b, v => b = .bool false ∧ v = .slice none 0 0
  | some L, b, v => b = .bool true ∧ RowOff w Z v L ∧ L.length ≤ 400
theorem slotC_kx {a b : World} {S Z : Nat → Prop} {o : Sl} {x y : Value} (h : SlotC a Z o x y) (g : Kx S a b) (hS : ∀ k, S k → Z k ∨ a.heap.size ≤ k) : SlotC b Z o x y := by
  cases o with
  | none => exact h
  | some L => exact ⟨h.1, rowOff_kx h.2.1 g hS, h.2.2⟩
theorem slotC_mono {a : World} {Z Z' : Nat → Prop} {o : Sl} {x y : Value} (h : SlotC a Z o x y) (hZ : ∀ k, Z' k → Z k ∨ a.heap.size ≤ k) : SlotC a Z' o x y := by
  cases o with
  | none => exact h
  | some L => exact ⟨h.1, rowOff_mono h.2.1 hZ, h.2.2⟩
/-- Other blocks turn, and other ones are then told to be the owner's. -/
theorem slotC_turn {a b : World} {S Z Z' : Nat → Prop} {o : Sl} {x y : Value} (h : SlotC a Z o x y) (g : Kx S a b) (hS : ∀ k, S k → Z k ∨ a.heap.size ≤ k) (hZ : ∀ k, Z' k → Z k ∨ a.heap.size ≤ k) : SlotC b Z' o x y :=
  slotC_mono (slotC_kx (slotC_mono (Z' := fun k => Z k ∨ a.heap.size ≤ k) h (fun k h => h)) g (fun k hk => Or.inl (hS k hk))) (fun k hk => Or.inl (hZ k hk))
/-- The page's own blocks: its head, and the row of its slots. -/
abbrev pgZ (B : Nat) (C : Option Nat) : Nat → Prop := fun k => k = B ∨ C = some k
theorem pageAt_kx {a b : World} {B : Nat} {kd id : Int} {s : Value} {S : Nat → Prop} (h : PageAt a B kd id s) (g : Kx S a b) (hB : ¬ S B) : PageAt b B kd id s :=
  ⟨cell_kx g hB h.1, cell_kx g hB h.2.1, cell_kx g hB h.2.2.1, cell_kx g hB h.2.2.2.1, frozen_kx g hB h.2.2.2.1 h.2.2.2.2⟩
section
variable {B : Nat} {C : Option Nat} {kd id : Int} {S : List Sl}
/-- Is there something in a slot? -/
def hasS (S : List Sl) (i : Int) : Bool := decide (0 ≤ i) && (S.getD i.toNat none).isSome
theorem hasS_nat (S : List Sl) (i : Nat) : hasS S (i : Int) = (S.getD i none).isSome := by
  unfold hasS
  rw [decide_eq_true (by omega), Bool.true_and, Int.toNat_natCast]
theorem getD_lt (S : List Sl) {j : Nat} (h : j < S.length) : S.getD j none = S[j] := by
  rw [List.getD_eq_getElem?_getD, List.getElem?_eq_getElem h]; rfl
theorem getD_ge (S : List Sl) {j : Nat} (h : S.length ≤ j) : S.getD j none = none := by
  rw [List.getD_eq_getElem?_getD, List.getElem?_eq_none h]; rfl
/-- The least free slot. -/
def lfS : List Sl → Nat
  | [] => 0
  | none :: _ => 0
  | some _ :: r => lfS r + 1
theorem lfS_le : ∀ S : List Sl, lfS S ≤ S.length
  | [] => Nat.le_refl _
  | none :: _ => Nat.zero_le _
  | some _ :: r => by have := lfS_le r; simp only [lfS, List.length_cons]; omega
theorem lfS_before : ∀ (S : List Sl) (j : Nat), j < lfS S → (S.getD j none).isSome = true
  | [], j, h => absurd h (Nat.not_lt_zero _)
  | none :: _, j, h => absurd h (Nat.not_lt_zero _)
  | some _ :: r, 0, h => rfl
  | some _ :: r, j + 1, h => by
    have := lfS_before r j (by simp only [lfS] at h; omega)
    simpa using this
theorem lfS_at : ∀ S : List Sl, S.getD (lfS S) none = none
  | [] => rfl
  | none :: _ => rfl
  | some _ :: r => by have := lfS_at r; simpa [lfS] using this
/-- How many bytes are in a slot; in the first ones. -/
def szO : Sl → Nat
  | none => 0
  | some L => L.length
def szT (S : List Sl) : Nat → Nat
  | 0 => 0
  | i + 1 => szT S i + szO (S.getD i none)
theorem szT_le {S : List Sl} (h : ∀ j, szO (S.getD j none) ≤ 400) : ∀ i, szT S i ≤ i * 400
  | 0 => Nat.le_refl _
  | i + 1 => by have h1 := szT_le h i; have h2 := h i; simp only [szT, Nat.succ_mul]; omega
/-- How much of the page is used. -/
def usS (S : List Sl) : Nat := 16 + 4 * S.length + szT S S.length
theorem slotC_val {w : World} {Z : Nat → Prop} {o : Sl} {b v : Value} (h : SlotC w Z o b v) : ∃ ad c, v = .slice ad (szO o) c := by
  cases o with
  | none => exact ⟨none, 0, h.2⟩
  | some L => obtain ⟨_, ⟨⟨ad, c, _, _, e, _⟩, _⟩, _⟩ := h; exact ⟨ad, c, e⟩
end
end Go.Proofs.YtkbdhhmkdjajgaaDoor
