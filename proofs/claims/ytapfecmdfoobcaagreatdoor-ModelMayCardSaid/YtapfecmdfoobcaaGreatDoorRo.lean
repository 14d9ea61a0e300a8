/- rows of bytes that lie in none of some blocks; copies of slices -/
import Derived.Test.YtapfecmdfoobcaaGreatDoorRi
import Derived.Test.YtapfecmdfoobcaaGreatDoorEt
import Derived.Test.YtapfecmdfoobcaaGreatDoorOe
namespace Go.Proofs.YtapfecmdfoobcaaGreatDoor
set_option linter.unusedVariables false
set_option linter.unusedSimpArgs false
open Go.ChangeShapes Go.WideShapes Go.ChangeAt Go.RowKit

theorem wr_small {z : Int} (h : -1000000 ≤ z ∧ z ≤ 1000000) : wrap64 z = z := IntWalk.wrap64_in _ (by omega)
theorem wk_small {z : Int} (h : -1000000 ≤ z ∧ z ≤ 1000000) : IntKind.i64.wrap z = z := IntWalk.i64_in _ (by omega)
/-- Bytes that lie in none of these blocks, and in a block of bytes. -/
def RowOff (w : World) (Z : Nat → Prop) (v : Value) (L : List UInt8) : Prop :=
  Row w v L ∧ (0 < L.length → ∀ (ad : Addr) (m c : Nat), v = .slice (some ad) m c → ¬ Z ad.block) ∧ (0 < L.length → ∀ (ad : Addr) (m c : Nat), v = .slice (some ad) m c → ∃ cur, w.heap[ad.block]? = some (.cells cur 5 (0, 0)))
theorem rowOff_kx {a b : World} {S Z : Nat → Prop} {v : Value} {L : List UInt8} (h : RowOff a Z v L) (g : Kx S a b) (hS : ∀ k, S k → Z k ∨ a.heap.size ≤ k) : RowOff b Z v L := by
  obtain ⟨⟨ad, cap, B, off, e, h1, h2, h3, h4⟩, h5, h6⟩ := h
  have hB : ∀ (hl : 0 < L.length), ¬ S B := fun hl hs => by
    have hB : B < a.heap.size := World.block_lt_of_cell? _ _ (h4 0 hl)
    rcases hS _ hs with h | h
    · exact h5 hl _ _ _ (by rw [e, h3 hl]) h
    · omega
  refine ⟨⟨ad, cap, B, off, e, h1, h2, h3, fun j hj => cell_kx g (hB (by omega)) (h4 j hj)⟩, h5, fun hl ad' m c e' => ?_⟩
  obtain ⟨cur, hc⟩ := h6 hl ad' m c e'
  rw [e, h3 hl] at e'
  cases e'
  exact ⟨cur, heap_kx g (hB hl) hc⟩
theorem rowOff_mono {a : World} {Z Z' : Nat → Prop} {v : Value} {L : List UInt8} (h : RowOff a Z v L) (hZ : ∀ k, Z' k → Z k ∨ a.heap.size ≤ k) : RowOff a Z' v L := by
  refine ⟨h.1, fun hl ad m c e hz => ?_, h.2.2⟩
  rcases hZ _ hz with h1 | h1
  · exact h.2.1 hl ad m c e h1
  · obtain ⟨⟨ad', cap, B, off, e', h1', h2, h3, h4⟩, _⟩ := h
    have e2 := h3 hl
    subst e2
    rw [e'] at e
    cases e
    have : B < a.heap.size := World.block_lt_of_cell? _ _ (h4 0 hl)
    have h1'' : a.heap.size ≤ B := h1
    omega
theorem rowOff_gr {a b : World} {Z : Nat → Prop} {v : Value} {L : List UInt8} (h : RowOff a Z v L) (g : Gr a b) : RowOff b Z v L :=
  rowOff_kx (S := fun _ => False) h (Kx.of_gr g) (fun _ h => h.elim)
theorem rowOwn_kxS {S : Nat → Prop} {base e size n : Nat} {a b : World} {v : Value} {xs : List Value} (h : a.ownsRow base e size v n xs) (g : Kx S a b) (hn : ∀ k, v.ownBlock = some k → ¬ S k) : b.ownsRow base e size v n xs := by
  rcases h with ⟨h1, ⟨rfl, h2⟩ | ⟨g', cap, cur, rfl, hb, hg, hn', hc, hs, ht⟩⟩
  · exact ⟨h1, .inl ⟨rfl, h2⟩⟩
  · exact ⟨h1, .inr ⟨g', cap, cur, rfl, hb, heap_kx g (hn _ rfl) hg, hn', hc, hs, ht⟩⟩
theorem kx_grown {a b : World} {u v : Value} (h : Grown a b u v) : Kx (fun k => u.ownBlock = some k) a b :=
  ⟨h.1.os, h.1.tape, h.1.output, h.1.size, fun k hk hs => h.1.block k hk (fun e => hs e.symm)⟩
theorem eqNilA (a : Addr) (m cap : Nat) (w : World) : (binOp .eql 69 (.slice (some a) m cap) (.slice none 0 0)).run Tryz.prog w = .ok (.bool false) w := by kernel_rfl
theorem eqNilN (m cap : Nat) (w : World) : (binOp .eql 69 (.slice none m cap) (.slice none 0 0)).run Tryz.prog w = .ok (.bool true) w := by kernel_rfl
theorem own_form {w : World} {base : Nat} {v : Value} {L : List UInt8} (h : Own w base v L) : ∃ ad c, v = .slice ad L.length c := by
  obtain ⟨ad, c, _, _, e, _⟩ := row_own h
  exact ⟨ad, c, e⟩
theorem own_base {w : World} {base base' : Nat} {v : Value} {L : List UInt8} (h : Own w base v L) (hb : base' ≤ base) : Own w base' v L := by
  rcases h with ⟨h1, h2 | ⟨g, cap, cur, e, hg, r⟩⟩
  · exact ⟨h1, .inl h2⟩
  · exact ⟨h1, .inr ⟨g, cap, cur, e, Nat.le_trans hb hg, r⟩⟩
theorem rowOff_own {w : World} {base : Nat} {Z : Nat → Prop} {v : Value} {L : List UInt8} (h : Own w base v L) (hZ : ∀ k, Z k → k < base) : RowOff w Z v L :=
  ⟨row_own h, fun hl ad m c e hz => by
    subst e
    have := own_row h ad.block rfl
    have := hZ _ hz
    omega, fun hl ad m c e => by
    subst e
    rcases h.2 with ⟨e, _⟩ | ⟨g', cap', cur, e, hb, hh, _⟩
    · cases e
    · cases e
      exact ⟨cur, hh⟩⟩
end Go.Proofs.YtapfecmdfoobcaaGreatDoor
