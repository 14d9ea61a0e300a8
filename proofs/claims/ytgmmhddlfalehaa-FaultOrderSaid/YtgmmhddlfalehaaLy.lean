/- fault's law: what made makes of plain data -/
import Derived.Test.YtgmmhddlfalehaaLx
namespace Go.Proofs.Ytgmmhddlfalehaa
set_option linter.unusedVariables false
set_option linter.unusedSimpArgs false
open Go.ChangeShapes Go.WideShapes Go.ChangeAt Go.RowKit

/-- A value that is made of plain data, as the error E, in blocks of Z. -/
def MV (Z : Nat → Prop) (w : World) : Nd → Er → Value → Prop
  | .nil, _, _ => False
  | .mk kind N op n kids, E, v =>
    (kind = 1 ∧ E = .num N ∧ v = .iface 30 (.int .i64 N)) ∨
    (kind = 2 ∧ ∃ F u e, E = .flt op N e ∧ v = .iface 33 (.pointer (some ⟨F, 0, none⟩)) ∧ Z F ∧ w.heap[F]? = some (.cells #[.string op, .int .i64 N, u] 37 (0, 0)) ∧ ((0 < n ∧ MV Z w (kids 0) e u) ∨ (n = 0 ∧ e = .nil ∧ u = .nilIface))) ∨
    (kind = 3 ∧ ∃ (es : Nat → Er) (P : Nat) (ad : Option Addr) (cap B off : Nat), E = .wrap 58 n es ∧ v = .iface 58 (.pointer (some ⟨P, 0, none⟩)) ∧ Z P ∧ w.cell? ⟨P, 0, none⟩ = some (.slice ad n cap) ∧ n ≤ cap ∧ cap ≤ 9223372036854775807 ∧ (0 < n → ad = some ⟨B, off, none⟩ ∧ Z B) ∧ ∀ i, i < n → ∃ u, w.cell? ⟨B, off + i, none⟩ = some u ∧ MV Z w (kids i) (es i) u) ∨
    (kind = 4 ∧ ∃ P, E = .plain 45 (.pointer (some ⟨P, 0, none⟩)) ∧ v = .iface 45 (.pointer (some ⟨P, 0, none⟩)) ∧ Z P ∧ w.cell? ⟨P, 0, none⟩ = some (.string op)) ∨
    (kind = 5 ∧ E = .nflt ∧ v = .iface 33 (.pointer none)) ∨
    (kind = 6 ∧ ∃ P u e, E = .cov 61 e ∧ v = .iface 61 (.pointer (some ⟨P, 0, none⟩)) ∧ Z P ∧ w.cell? ⟨P, 0, none⟩ = some u ∧ ((0 < n ∧ MV Z w (kids 0) e u) ∨ (n = 0 ∧ e = .nil ∧ u = .nilIface))) ∨
    ((kind < 1 ∨ 6 < kind) ∧ E = .nil ∧ v = .nilIface)
theorem mv_to {Z Z' : Nat → Prop} {a b : World} (hZ : ∀ k, k < a.heap.size → Z k → Z' k) (hh : ∀ F o, Z F → a.heap[F]? = some o → b.heap[F]? = some o) (hc : ∀ B i u, Z B → a.cell? ⟨B, i, none⟩ = some u → b.cell? ⟨B, i, none⟩ = some u) : ∀ (T : Nd) {E : Er} {v : Value}, MV Z a T E v → MV Z' b T E v := by
  intro T
  induction T with
  | nil => intro E v h; exact h.elim
  | mk kind N op n kids ih =>
    intro E v h
    rcases h with h | ⟨hk, F, u, e, h1, h2, h3, h4, h5⟩ | ⟨hk, es, P, ad, cap, B, off, h1, h2, h3, h4, h5, h6, h7, h8⟩ | ⟨hk, P, h1, h2, h3, h4⟩ | h | ⟨hk, P, u, e, h1, h2, h3, h4, h5⟩ | h
    · exact Or.inl h
    · exact Or.inr (Or.inl ⟨hk, F, u, e, h1, h2, hZ F (Array.getElem?_eq_some_iff.1 h4).1 h3, hh F _ h3 h4, h5.imp (fun h => ⟨h.1, ih 0 h.2⟩) id⟩)
    · exact Or.inr (Or.inr (Or.inl ⟨hk, es, P, ad, cap, B, off, h1, h2, hZ P (World.block_lt_of_cell? _ _ h4) h3, hc P 0 _ h3 h4, h5, h6, fun h => by
        obtain ⟨u, hu, -⟩ := h8 0 h
        exact ⟨(h7 h).1, hZ B (World.block_lt_of_cell? _ _ hu) (h7 h).2⟩, fun i hi => by
        obtain ⟨u, hu, hm⟩ := h8 i hi
        exact ⟨u, hc B (off + i) u (h7 (by omega)).2 hu, ih i hm⟩⟩))
    · exact Or.inr (Or.inr (Or.inr (Or.inl ⟨hk, P, h1, h2, hZ P (World.block_lt_of_cell? _ _ h4) h3, hc P 0 _ h3 h4⟩)))
    · exact Or.inr (Or.inr (Or.inr (Or.inr (Or.inl h))))
    · exact Or.inr (Or.inr (Or.inr (Or.inr (Or.inr (Or.inl ⟨hk, P, u, e, h1, h2, hZ P (World.block_lt_of_cell? _ _ h4) h3, hc P 0 _ h3 h4, h5.imp (fun h => ⟨h.1, ih 0 h.2⟩) id⟩)))))
    · exact Or.inr (Or.inr (Or.inr (Or.inr (Or.inr (Or.inr h)))))
theorem mv_kx {Z Z' S : Nat → Prop} {a b : World} {T : Nd} {E : Er} {v : Value} (h : MV Z a T E v) (K : Kx S a b) (hS : ∀ k, k < a.heap.size → Z k → Z' k ∧ ¬ S k) : MV Z' b T E v :=
  mv_to (Z := fun k => Z k ∧ k < a.heap.size) (fun k hk hz => (hS k hk hz.1).1) (fun F o hz ho => heap_kx K (hS F hz.2 hz.1).2 ho) (fun B i u hz hu => cell_kx K (p := ⟨B, i, none⟩) (hS B hz.2 hz.1).2 hu) T (mv_to (fun k hk hz => ⟨hz, hk⟩) (fun _ _ _ h => h) (fun _ _ _ _ h => h) T h)
theorem mv_gr {Z : Nat → Prop} {a b : World} {T : Nd} {E : Er} {v : Value} (h : MV Z a T E v) (g : Gr a b) : MV Z b T E v := mv_kx h (Kx.of_gr (S := fun _ => False) g) (fun k _ hz => ⟨hz, fun h => h⟩)
theorem mv_erT {Z : Nat → Prop} {w : World} : ∀ (T : Nd) {E : Er} {v : Value}, MV Z w T E v → ErT w E v := by
  intro T
  induction T with
  | nil => intro E v h; exact h.elim
  | mk kind N op n kids ih =>
    intro E v h
    rcases h with ⟨hk, rfl, rfl⟩ | ⟨hk, F, u, e, rfl, rfl, h3, h4, h5⟩ | ⟨hk, es, P, ad, cap, B, off, rfl, rfl, h3, h4, h5, h6, h7, h8⟩ | ⟨hk, P, rfl, rfl, h3, h4⟩ | ⟨hk, rfl, rfl⟩ | ⟨hk, P, u, e, rfl, rfl, h3, h4, h5⟩ | ⟨hk, rfl, rfl⟩
    · rfl
    · exact ⟨F, u, rfl, h4, by rcases h5 with ⟨-, h⟩ | ⟨-, rfl, rfl⟩; exact ih 0 h; rfl⟩
    · exact ⟨wrapTy_many, P, ad, cap, B, off, rfl, h4, h5, h6, fun h => (h7 h).1, fun i hi => by
        obtain ⟨u, hu, hm⟩ := h8 i hi
        exact ⟨u, hu, ih i hm⟩⟩
    · exact ⟨rfl, plainTy_plain, by decide⟩
    · rfl
    · exact ⟨covTy_cover, P, u, rfl, h4, by rcases h5 with ⟨-, h⟩ | ⟨-, rfl, rfl⟩; exact ih 0 h; rfl⟩
    · rfl
theorem erSum_le2 (f g : Nat → Nat) : ∀ n, (∀ i, i < n → f i ≤ 2 * g i) → erSum f n ≤ 2 * erSum g n
  | 0, _ => Nat.le_refl _
  | n + 1, h => by
    have a := erSum_le2 f g n (fun i hi => h i (by omega))
    have b := h n (by omega)
    show erSum f n + f n ≤ 2 * (erSum g n + g n)
    omega
theorem mv_size {Z : Nat → Prop} {w : World} : ∀ (T : Nd) {E : Er} {v : Value}, MV Z w T E v → E.size ≤ 2 * T.cnt := by
  intro T
  induction T with
  | nil => intro E v h; exact h.elim
  | mk kind N op n kids ih =>
    intro E v h
    show E.size ≤ 2 * (1 + erSum (fun i => (kids i).cnt) n)
    have hone : ∀ e u, ((0 < n ∧ MV Z w (kids 0) e u) ∨ (n = 0 ∧ e = .nil ∧ u = .nilIface)) → 1 + e.size ≤ 2 * (1 + erSum (fun i => (kids i).cnt) n) := fun e u h5 => by
      rcases h5 with ⟨hn, h⟩ | ⟨-, rfl, -⟩
      · have a := ih 0 h
        have b := erSum_le (fun i => (kids i).cnt) n 0 hn
        have b' : (kids 0).cnt ≤ erSum (fun i => (kids i).cnt) n := b
        omega
      · show 1 + 1 ≤ _; omega
    rcases h with ⟨hk, rfl, rfl⟩ | ⟨hk, F, u, e, rfl, rfl, h3, h4, h5⟩ | ⟨hk, es, P, ad, cap, B, off, rfl, rfl, h3, h4, h5, h6, h7, h8⟩ | ⟨hk, P, rfl, rfl, h3, h4⟩ | ⟨hk, rfl, rfl⟩ | ⟨hk, P, u, e, rfl, rfl, h3, h4, h5⟩ | ⟨hk, rfl, rfl⟩
    · show 1 ≤ _; omega
    · exact hone e u h5
    · show 1 + erSum (fun i => (es i).size) n ≤ _
      have := erSum_le2 (fun i => (es i).size) (fun i => (kids i).cnt) n (fun i hi => by
        obtain ⟨u, hu, hm⟩ := h8 i hi
        exact ih i hm)
      omega
    · show 1 ≤ _; omega
    · show 2 ≤ _; omega
    · exact hone e u h5
    · show 1 ≤ _; omega
/-- Some of many are made. -/
def MkS (W w : World) (P i : Nat) (kids : Nat → Nd) : Prop := ∃ (sv : Value) (us : List Value) (es : Nat → Er), w.heap[P]? = some (.cells #[sv] 60 (0, 0)) ∧ w.ownsRow (P + 1) 28 1 sv i us ∧ (∀ j, j < i → ∃ u, us[j]? = some u ∧ MV (fun k => P < k ∧ sv.ownBlock ≠ some k) w (kids j) (es j) u) ∧ Gr W w ∧ W.heap.size ≤ P
theorem mkS_end {W w : World} {P n : Nat} {kids : Nat → Nd} {N : Int} {op : ByteArray} (h : MkS W w P n kids) : ∃ E, MV (fun k => W.heap.size ≤ k) w (.mk 3 N op n kids) E (.iface 58 (.pointer (some ⟨P, 0, none⟩))) := by
  obtain ⟨sv, us, es, h1, h2, h3, g, hP⟩ := h
  have hlt := World.ownsRow.lt h2
  obtain ⟨D, ad, cap, e, d1, d2, d3, d5⟩ := rowX h2
  subst e
  refine ⟨_, Or.inr (Or.inr (Or.inl ⟨rfl, es, P, ad, cap, D, 0, rfl, rfl, hP, Hm.cell_of_heap h1 0, d2, by omega, fun h => ⟨d1 h, ?_⟩, fun i hi => ?_⟩))⟩
  · have ea := d1 h
    subst ea
    have := (hlt D rfl).1
    omega
  · obtain ⟨u, hu, hm⟩ := h3 i hi
    exact ⟨u, by rw [Nat.zero_add, d5 i (by omega)]; exact hu, mv_to (fun k _ hz => by have := hz.1; omega) (fun _ _ _ h => h) (fun _ _ _ _ h => h) _ hm⟩
end Go.Proofs.Ytgmmhddlfalehaa
