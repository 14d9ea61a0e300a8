/- fault: walk, whatever visits -/
import Derived.Test.YtgmmhddlfalehaaLf
import Derived.Deep.CutBlock
namespace Go.Proofs.Ytgmmhddlfalehaa
set_option linter.unusedVariables false
set_option linter.unusedSimpArgs false
open Go.ChangeShapes Go.WideShapes Go.ChangeAt Go.RowKit

section
variable {P : Program} {w : World} {ops : Array Oper} {rest : List Oper} {o : Oper} {a : Act} {Q : Exit → Act → World → Prop}
theorem wpList_lookP (hg : o.guard = none) (m x : Operand) (t : TypeId) (hop : o.op = Op.lookup t m x true) {r F : Nat} {v : Value} (hm : a.eval m = .map (some r)) (hx : a.eval x = ptrV F) (hr : (Instr.lookup t (.map (some r)) (ptrV F) true).run P w = .ok v w)
    (hK : wpList P ops Q rest (a.put o.dst v) w) : wpList P ops Q (o :: rest) a w := by
  refine wpList_plain hg fun K hK' => ?_
  unfold Oper.wp
  simp [execOp, hop, hm, hx, hr, Result.andThen]
  exact hK' _ _ hK
theorem wpList_delP (hg : o.guard = none) (m x : Operand) (t k : TypeId) (hop : o.op = Op.call { callee := Callee.builtin Builtin.delete, args := #[m, x], argTypes := #[t, k] }) {r F : Nat} (hm : a.eval m = .map (some r)) (hx : a.eval x = ptrV F) {w' : World} (hr : (Builtin.delete_ #[t, k] o.type #[.map (some r), ptrV F]).run P w = .ok (.tuple #[]) w')
    (hK : wpList P ops Q rest (a.put o.dst (.tuple #[])) w') : wpList P ops Q (o :: rest) a w := by
  refine wpList_plain hg fun K hK' => ?_
  unfold Oper.wp
  simp [execOp, hop, resolve, invoke, builtin, hm, hx, hr, Result.andThen]
  exact hK' _ _ hK
end
/-- Blocks of a walk's own kinds, or new ones. -/
def OthV (w : World) (T : Nat → Prop) : Prop := ∀ k, T k → w.heap.size ≤ k ∨ (∃ cur z, w.heap[k]? = some (.cells cur 77 z)) ∨ ∃ es c, w.heap[k]? = some (.map es c)
/-- What a visit may turn: blocks that came behind W0, of other kinds. -/
def VFr (W0 w w' : World) : Prop := ∃ S : Nat → Prop, Kx S w w' ∧ ∀ k, S k → W0.heap.size ≤ k ∧ (w.heap.size ≤ k ∨ ∃ cur U z, w.heap[k]? = some (.cells cur U z) ∧ U ≠ 77)
theorem vfr_gr {W0 w w' : World} (h : VFr W0 w w') (G : Gr W0 w) : Gr W0 w' := by
  obtain ⟨S, K, hS⟩ := h
  exact Kx.gr K G (fun k hk => (hS k hk).1)
theorem vfr_of_gr {W0 w w' : World} (g : Gr w w') : VFr W0 w w' := ⟨fun _ => False, Kx.of_gr g, fun k h => h.elim⟩
theorem own_step {w : World} {base : Nat} {v : Value} {st : List It} (h : TodoS w base v st) {k : Nat} (hk : v.ownBlock = some k) : base ≤ k ∧ ∃ cur, w.heap[k]? = some (.cells cur 77 (0, 0)) := by
  rcases h.2 with ⟨e, _⟩ | ⟨g, cap, cur, e, hb, hg, _⟩
  · rw [e] at hk; cases hk
  · rw [e] at hk
    obtain rfl : g = k := by simpa [Value.ownBlock] using hk
    exact ⟨hb, cur, hg⟩
theorem todo_vfr {W0 w w' : World} {base : Nat} {v : Value} {st : List It} (h : TodoS w base v st) (g : VFr W0 w w') : TodoS w' base v st := by
  obtain ⟨S, K, hS⟩ := g
  refine todoS_kx h K (fun k hk hs => ?_)
  obtain ⟨-, cur, hc⟩ := own_step h hk
  rcases (hS k hs).2 with h' | ⟨cur', U, z, h', hU⟩
  · have := (World.ownsRow.lt h k hk).2; omega
  · rw [hc] at h'
    simp at h'
    exact hU h'.2.1.symm
theorem pset_kx {a b : World} {m : Nat} {S : List Nat} {T : Nat → Prop} (h : PSet a m S) (K : Kx T a b) (hT : ¬ T m) : PSet b m S := by
  obtain ⟨es, c, hb, r⟩ := h
  exact ⟨es, c, heap_kx K hT hb, r⟩
theorem pset_lt {a : World} {m : Nat} {S : List Nat} (h : PSet a m S) : m < a.heap.size := by
  obtain ⟨es, c, hb, r⟩ := h
  exact (Array.getElem?_eq_some_iff.1 hb).1
theorem pset_vfr {W0 w w' : World} {m : Nat} {S : List Nat} (h : PSet w m S) (g : VFr W0 w w') : PSet w' m S := by
  obtain ⟨T, K, hT⟩ := g
  refine pset_kx h K (fun hs => ?_)
  have hl := pset_lt h
  obtain ⟨es, c, hb, -⟩ := h
  rcases (hT m hs).2 with h' | ⟨cur', U, z, h', hU⟩
  · omega
  · rw [hb] at h'; cases h'
theorem pset_gr {a b : World} {m : Nat} {S : List Nat} (h : PSet a m S) (g : Gr a b) : PSet b m S := pset_kx (T := fun _ => False) h (Kx.of_gr g) (fun h => h)
theorem todo_neM {w : World} {base m : Nat} {v : Value} {st : List It} {S : List Nat} (h : TodoS w base v st) (hm : PSet w m S) : v.ownBlock ≠ some m := fun e => by
  obtain ⟨-, cur, hc⟩ := own_step h e
  obtain ⟨es, c, hb, -⟩ := hm
  rw [hc] at hb
  cases hb
theorem fltB_gr {a b : World} {F : Nat} (h : FltB a F) (g : Gr a b) : FltB b F := by
  obtain ⟨c, h⟩ := h
  exact ⟨c, heap_kx (S := fun _ => False) (Kx.of_gr g) (fun h => h) h⟩
theorem row_cutI {w : World} {base g n cap size : Nat} {e : TypeId} {xs : List Value} (h : w.ownsRow base e size (.slice (some ⟨g, 0, none⟩) n cap) n xs) (n' : Nat) (hn : n' ≤ n) : w.ownsRow base e size (.slice (some ⟨g, 0, none⟩) n' cap) n' (xs.take (n' * size)) := by
  rcases h.2 with ⟨h', _⟩ | ⟨g', cap', cur, h', hb, hg, hnc, hcm, hcs, ht⟩
  · simp at h'
  · simp only [Value.slice.injEq, Option.some.injEq, Addr.mk.injEq, and_true, true_and] at h'
    obtain ⟨rfl, rfl⟩ := h'
    have hm : n' * size ≤ n * size := Nat.mul_le_mul_right _ hn
    refine ⟨by rw [List.length_take, h.1]; omega, .inr ⟨g, cap, cur, rfl, hb, hg, by omega, hcm, hcs, ?_⟩⟩
    rw [← ht, List.take_take, Nat.min_eq_left hm]
/-- The stack without its top. -/
theorem todo_pop {w : World} {base : Nat} {v : Value} {st : List It} {x : It} (h : TodoS w base v (st ++ [x])) : ∃ g cap, v = .slice (some ⟨g, 0, none⟩) (st.length + 1) cap ∧ TodoS w base (.slice (some ⟨g, 0, none⟩) st.length cap) st ∧ w.cell? ⟨g, st.length * 2, none⟩ = x.cells[0]? ∧ w.cell? ⟨g, st.length * 2 + 1, none⟩ = x.cells[1]? ∧ st.length + 1 ≤ cap ∧ (cap : Int) ≤ 9223372036854775807 ∧ g < w.heap.size := by
  have hl : (st ++ [x]).length = st.length + 1 := by simp
  obtain ⟨g, cap, e, hb, hlt, h1, h2⟩ := row_form h (by omega)
  subst e
  have hc := cellsI_get (st ++ [x]) st.length (by omega)
  have hx : (st ++ [x])[st.length]'(by omega) = x := by simp
  rw [hx] at hc
  refine ⟨g, cap, by rw [hl], ?_, ?_, ?_, by omega, h2, hlt⟩
  · have r := row_cutI h st.length (by omega)
    have e2 : (cellsI (st ++ [x])).take (st.length * 2) = cellsI st := by
      rw [cellsI_append, List.take_append_of_le_length (by rw [cellsI_len]; exact Nat.le_refl _), List.take_of_length_le (by rw [cellsI_len]; exact Nat.le_refl _)]
    rw [e2] at r
    exact r
  · rw [World.ownsRow.cellAt h (st.length * 2) (by omega)]
    exact hc.1
  · rw [World.ownsRow.cellAt h (st.length * 2 + 1) (by omega)]
    exact hc.2
end Go.Proofs.Ytgmmhddlfalehaa
