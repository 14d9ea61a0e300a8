/- heap: what lies in memory; two entries change places -/
import Derived.Test.YtldlpbfncgcimaaHd
import Derived.BigRegion
import Derived.OneCell
namespace Go.Proofs.Ytldlpbfncgcimaa
set_option linter.unusedVariables false
open Go.ChangeShapes Go.WideShapes Go.ChangeAt Go.RowKit

theorem flat_get (L : List Nu) : ∀ k, (L.flatMap Nu.cs)[k]? = (L[k / 7]?).bind fun x => x.cs[k % 7]? := by
  induction L with
  | nil => intro k; simp
  | cons x L ih =>
    intro k
    rw [List.flatMap_cons]
    have hl : x.cs.length = 7 := rfl
    by_cases h : k < 7
    · rw [List.getElem?_append_left (by omega), Nat.div_eq_of_lt h, Nat.mod_eq_of_lt h]
      rfl
    · rw [List.getElem?_append_right (by omega), hl, ih, show k / 7 = (k - 7) / 7 + 1 by omega, show k % 7 = (k - 7) % 7 by omega]
      rfl
theorem flat_len (L : List Nu) : (L.flatMap Nu.cs).length = L.length * 7 := by
  induction L with
  | nil => rfl
  | cons x L ih => rw [List.flatMap_cons, List.length_append, ih, List.length_cons]; have : x.cs.length = 7 := rfl; omega
theorem flat_at (L : List Nu) (i c : Nat) (hi : i < L.length) (hc : c < 7) : (L.flatMap Nu.cs)[i * 7 + c]? = L[i].cs[c]? := by
  rw [flat_get, show (i * 7 + c) / 7 = i by omega, show (i * 7 + c) % 7 = c by omega, List.getElem?_eq_getElem hi]
  rfl
theorem flat_set (L : List Nu) (i : Nat) (x : Nu) (hi : i < L.length) :
    (((((((L.flatMap Nu.cs).set (i * 7) (.int .i64 x.e.id)).set (i * 7 + 1) (.int .u64 x.e.hi)).set (i * 7 + 2) (.int .u64 x.e.lo)).set (i * 7 + 3) (.int .u64 x.e.den)).set (i * 7 + 4) (.bool x.e.item)).set (i * 7 + 5) (.int .i64 x.e.node)).set (i * 7 + 6) (.int .i64 x.k) = (L.set i x).flatMap Nu.cs := by
  have hl := flat_len L
  refine List.ext_getElem? fun k => ?_
  rw [flat_get (L.set i x), List.getElem?_set]
  simp only [List.getElem?_set, List.length_set, hl]
  by_cases h : i = k / 7
  · subst h
    rw [if_pos rfl, if_pos hi]
    have hk : k = k / 7 * 7 + k % 7 := by omega
    obtain ⟨c, hc⟩ : ∃ c, c = k % 7 := ⟨_, rfl⟩
    have h7 : c < 7 := by omega
    rw [← hc] at hk ⊢
    obtain ⟨q, hq⟩ : ∃ q, q = k / 7 := ⟨_, rfl⟩
    rw [← hq] at hk hi ⊢
    have cs : c = 0 ∨ c = 1 ∨ c = 2 ∨ c = 3 ∨ c = 4 ∨ c = 5 ∨ c = 6 := by omega
    clear hc hq
    rcases cs with rfl | rfl | rfl | rfl | rfl | rfl | rfl <;> subst hk <;> simp [Nu.cs] <;> omega
  · rw [if_neg h, flat_get]
    rw [if_neg (by omega), if_neg (by omega), if_neg (by omega), if_neg (by omega), if_neg (by omega), if_neg (by omega), if_neg (by omega)]
theorem row_set {w : World} {base g n cap : Nat} {e : TypeId} {L : List Nu} (h : w.ownsRow base e 7 (.slice (some ⟨g, 0, none⟩) n cap) n (L.flatMap Nu.cs)) (i : Nat) (x : Nu) (hi : i < L.length) :
    (((((((w.setCell ⟨g, i * 7, none⟩ (.int .i64 x.e.id)).setCell ⟨g, i * 7 + 1, none⟩ (.int .u64 x.e.hi)).setCell ⟨g, i * 7 + 2, none⟩ (.int .u64 x.e.lo)).setCell ⟨g, i * 7 + 3, none⟩ (.int .u64 x.e.den)).setCell ⟨g, i * 7 + 4, none⟩ (.bool x.e.item)).setCell ⟨g, i * 7 + 5, none⟩ (.int .i64 x.e.node)).setCell ⟨g, i * 7 + 6, none⟩ (.int .i64 x.k)).ownsRow base e 7 (.slice (some ⟨g, 0, none⟩) n cap) n ((L.set i x).flatMap Nu.cs) := by
  rw [← flat_set L i x hi]
  exact ((((((((h.stored _ _).1).stored _ _).1.stored _ _).1.stored _ _).1.stored _ _).1.stored _ _).1.stored _ _).1
/-- A heap that the call owns: its block is p, its slice v, its entries L; m were pushed. -/
def HeapAt (w : World) (base p : Nat) (v : Value) (L : List Nu) (m : Nat) : Prop :=
  base ≤ p ∧ w.heap[p]? = some (.cells #[v, .int .i64 m] 64 (0, 0)) ∧ w.ownsRow base 82 7 v L.length (L.flatMap Nu.cs) ∧ v.ownBlock ≠ some p
/-- Nothing is turned but the block p and the row of v; v' is that row, or a new one. -/
def Fr (w w' : World) (p : Nat) (v v' : Value) : Prop :=
  (w'.os = w.os ∧ w'.tape = w.tape ∧ w'.output = w.output ∧ w.heap.size ≤ w'.heap.size) ∧ (∀ k, k < w.heap.size → k ≠ p → some k ≠ v.ownBlock → w'.heap[k]? = w.heap[k]?) ∧ ∀ k, v'.ownBlock = some k → v.ownBlock = some k ∨ w.heap.size ≤ k
theorem Fr.gr {w w' w0 : World} {p : Nat} {v v' : Value} (h : Fr w w' p v v') (g : Gr w0 w) (hp : w0.heap.size ≤ p) (hv : ∀ k, v.ownBlock = some k → w0.heap.size ≤ k) : Gr w0 w' :=
  ⟨h.1.1.trans g.os, h.1.2.1.trans g.tape, h.1.2.2.1.trans g.output, Nat.le_trans g.size h.1.2.2.2, fun k hk => (h.2.1 k (Nat.lt_of_lt_of_le hk g.size) (by omega) (fun e => by have := hv k e.symm; omega)).trans (g.block k hk)⟩
theorem Fr.trans {a b c : World} {p : Nat} {u v x : Value} (h : Fr a b p u v) (k : Fr b c p v x) : Fr a c p u x := by
  refine ⟨⟨k.1.1.trans h.1.1, k.1.2.1.trans h.1.2.1, k.1.2.2.1.trans h.1.2.2.1, Nat.le_trans h.1.2.2.2 k.1.2.2.2⟩, fun i hi hp hn => ?_, fun i hi => ?_⟩
  · refine (k.2.1 i (Nat.lt_of_lt_of_le hi h.1.2.2.2) hp fun e => ?_).trans (h.2.1 i hi hp hn)
    rcases h.2.2 i e.symm with h1 | h1
    · exact hn h1.symm
    · omega
  · rcases k.2.2 i hi with h1 | h1
    · exact h.2.2 i h1
    · exact Or.inr (Nat.le_trans h.1.2.2.2 h1)
theorem Fr.of_gr {a b : World} {p : Nat} {v : Value} (g : Gr a b) : Fr a b p v v := ⟨⟨g.os, g.tape, g.output, g.size⟩, fun k hk _ _ => g.block k hk, fun k h => Or.inl h⟩
theorem heapAt_gr {a b : World} {base p m : Nat} {v : Value} {L : List Nu} (h : HeapAt a base p v L m) (g : Gr a b) : HeapAt b base p v L m := by
  obtain ⟨h1, h2, h3, h4⟩ := h
  refine ⟨h1, ?_, h3.kept (row := none) ⟨g.os, g.tape, g.output, g.size, fun k hk _ => g.block k hk⟩ (by cases hv : v.ownBlock <;> simp), h4⟩
  rw [g.block p (by have := Array.getElem?_eq_some_iff.1 h2; exact this.1)]
  exact h2
/-- An entry stored. -/
def s7 (w : World) (g i : Nat) (x : Nu) : World :=
  ((((((w.setCell ⟨g, i * 7, none⟩ (.int .i64 x.e.id)).setCell ⟨g, i * 7 + 1, none⟩ (.int .u64 x.e.hi)).setCell ⟨g, i * 7 + 2, none⟩ (.int .u64 x.e.lo)).setCell ⟨g, i * 7 + 3, none⟩ (.int .u64 x.e.den)).setCell ⟨g, i * 7 + 4, none⟩ (.bool x.e.item)).setCell ⟨g, i * 7 + 5, none⟩ (.int .i64 x.e.node)).setCell ⟨g, i * 7 + 6, none⟩ (.int .i64 x.k)
theorem s7_block (w : World) (g i : Nat) (x : Nu) (k : Nat) (hk : k ≠ g) : (s7 w g i x).heap[k]? = w.heap[k]? := by
  unfold s7
  simp only [heap_setCell_other _ (⟨g, _, none⟩ : Addr) k _ hk]
theorem sc_os (w : World) (a : Addr) (v : Value) : (w.setCell a v).os = w.os := rfl
theorem sc_tape (w : World) (a : Addr) (v : Value) : (w.setCell a v).tape = w.tape := rfl
theorem sc_output (w : World) (a : Addr) (v : Value) : (w.setCell a v).output = w.output := rfl
theorem s7_rest (w : World) (g i : Nat) (x : Nu) : (s7 w g i x).os = w.os ∧ (s7 w g i x).tape = w.tape ∧ (s7 w g i x).output = w.output ∧ (s7 w g i x).heap.size = w.heap.size := by
  unfold s7
  simp only [sc_os, sc_tape, sc_output]
  exact ⟨trivial, trivial, trivial, by simp⟩
theorem heapAt_drew {w : World} {base p m : Nat} {v : Value} {L : List Nu} (h : HeapAt w base p v L m) : HeapAt w.drew base p v L m := heapAt_gr h (Gr.drew (Below.refl _ _))
theorem Fr.drew {a b : World} {p : Nat} {u v : Value} (h : Fr a b p u v) : Fr a b.drew p u v := h.trans (Fr.of_gr (Gr.drew (Below.refl _ _)))
theorem heapAt_set {w : World} {base p g n cap m : Nat} {L : List Nu} (h : HeapAt w base p (.slice (some ⟨g, 0, none⟩) n cap) L m) (hn : n = L.length) (i : Nat) (x : Nu) (hi : i < L.length) :
    HeapAt (s7 w g i x) base p (.slice (some ⟨g, 0, none⟩) n cap) (L.set i x) m ∧ Fr w (s7 w g i x) p (.slice (some ⟨g, 0, none⟩) n cap) (.slice (some ⟨g, 0, none⟩) n cap) := by
  subst hn
  obtain ⟨h1, h2, h3, h4⟩ := h
  have hpg : p ≠ g := fun e => h4 (by simp [Value.ownBlock, e])
  refine ⟨⟨h1, ?_, ?_, h4⟩, ⟨(s7_rest w g i x).1, (s7_rest w g i x).2.1, (s7_rest w g i x).2.2.1, by rw [(s7_rest w g i x).2.2.2]; exact Nat.le_refl _⟩, fun k hk hkp hkv => s7_block w g i x k (fun e => hkv (by simp [Value.ownBlock, e])), fun k h => Or.inl h⟩
  · rw [s7_block w g i x p hpg]; exact h2
  · have := row_set h3 i x hi
    rw [List.length_set]
    exact this
set_option maxHeartbeats 4000000 in
set_option maxRecDepth 100000 in
theorem c_swap (L : List Nu) (i j : Nat) (hi : i < L.length) (hj : j < L.length) (base p m : Nat) (v : Value) (hl : L.length ≤ 100000) (W : World) (H : HeapAt W base p v L m) :
    Calls Try.prog 37 #[.pointer (some ⟨p, 0, none⟩), .int .i64 i, .int .i64 j] W fun e w' => e = .returned (.tuple #[]) ∧ HeapAt w' base p v (Hp.sw L i j hi hj) m ∧ Fr W w' p v v := by
  obtain ⟨h1, h2, h3, h4⟩ := id H
  rcases h3.2 with ⟨-, h0⟩ | ⟨g, cap, cur, rfl, hb, hg, hn, hc, hs, ht⟩
  · omega
  have p0 : W.cell? ⟨p, 0, none⟩ = some (.slice (some ⟨g, 0, none⟩) L.length cap) := by rw [cell_of_row W p 0 _ _ _ h2]; rfl
  have cell : ∀ (a : Nat) (ha : a < L.length) (c : Nat), c < 7 → W.cell? ⟨g, a * 7 + c, none⟩ = L[a].cs[c]? := fun a ha c hc => by
    rw [World.ownsRow.cellAt h3 _ (by omega), flat_at L a c ha hc]
  have fz : ∀ a, W.frozen? ⟨g, a, none⟩ = false := fun a => World.ownsRow.frozenAt h3 a
  have a0 := cell i hi 0 (by omega)
  have a1 := cell i hi 1 (by omega)
  have a2 := cell i hi 2 (by omega)
  have a3 := cell i hi 3 (by omega)
  have a4 := cell i hi 4 (by omega)
  have a5 := cell i hi 5 (by omega)
  have a6 := cell i hi 6 (by omega)
  have b0 := cell j hj 0 (by omega)
  have b1 := cell j hj 1 (by omega)
  have b2 := cell j hj 2 (by omega)
  have b3 := cell j hj 3 (by omega)
  have b4 := cell j hj 4 (by omega)
  have b5 := cell j hj 5 (by omega)
  have b6 := cell j hj 6 (by omega)
  obtain ⟨x, hx⟩ : ∃ x, x = L[i] := ⟨_, rfl⟩
  obtain ⟨y, hy⟩ : ∃ y, y = L[j] := ⟨_, rfl⟩
  rw [← hx] at a0 a1 a2 a3 a4 a5 a6
  rw [← hy] at b0 b1 b2 b3 b4 b5 b6
  replace a0 : W.cell? ⟨g, i * 7, none⟩ = some (.int .i64 x.e.id) := a0
  replace b0 : W.cell? ⟨g, j * 7, none⟩ = some (.int .i64 y.e.id) := b0
  replace a1 : W.cell? ⟨g, i * 7 + 1, none⟩ = some (.int .u64 x.e.hi) := a1
  replace b1 : W.cell? ⟨g, j * 7 + 1, none⟩ = some (.int .u64 y.e.hi) := b1
  replace a2 : W.cell? ⟨g, i * 7 + 2, none⟩ = some (.int .u64 x.e.lo) := a2
  replace b2 : W.cell? ⟨g, j * 7 + 2, none⟩ = some (.int .u64 y.e.lo) := b2
  replace a3 : W.cell? ⟨g, i * 7 + 3, none⟩ = some (.int .u64 x.e.den) := a3
  replace b3 : W.cell? ⟨g, j * 7 + 3, none⟩ = some (.int .u64 y.e.den) := b3
  replace a4 : W.cell? ⟨g, i * 7 + 4, none⟩ = some (.bool x.e.item) := a4
  replace b4 : W.cell? ⟨g, j * 7 + 4, none⟩ = some (.bool y.e.item) := b4
  replace a5 : W.cell? ⟨g, i * 7 + 5, none⟩ = some (.int .i64 x.e.node) := a5
  replace b5 : W.cell? ⟨g, j * 7 + 5, none⟩ = some (.int .i64 y.e.node) := b5
  replace a6 : W.cell? ⟨g, i * 7 + 6, none⟩ = some (.int .i64 x.k) := a6
  replace b6 : W.cell? ⟨g, j * 7 + 6, none⟩ = some (.int .i64 y.k) := b6
  have ti : decide ((i : Int) < (L.length : Int)) = true := decide_eq_true (by omega)
  have tj : decide ((j : Int) < (L.length : Int)) = true := decide_eq_true (by omega)
  have HH := Lib.hid H
  have HC := Lib.hid (And.intro hb (And.intro hg (And.intro hn (And.intro hc (And.intro hs ht)))))
  have HX := Lib.hid (And.intro hx hy)
  have H3 := Lib.hid h3
  clear h1 h2 h3 h4 hb hg hn hc hs ht hx hy cell H
  by_cases hij : i = j
  · subst hij
    go_enter Try.func37, Try.ntmps37
    go_wp2_with fail
    go_region
    all_goals
      go_end0
      have e : Hp.sw L i i hi hj = (L.set i x).set i x := by unfold Hp.sw; rw [HX.out.1]
      rw [e]
      have k1 := heapAt_set HH.out rfl i x hi
      have k2 := heapAt_set k1.1 (by simp) i x (by simpa using hi)
      have k3 := heapAt_drew k2.1
      have k4 := (k1.2.trans k2.2).drew
      unfold s7 at k3 k4
      exact ⟨rfl, k3, k4⟩
  · have hji : ¬ j = i := fun e => hij e.symm
    go_enter Try.func37, Try.ntmps37
    go_wp2_with fail
    go_region
    all_goals
      go_end0
      have e : Hp.sw L i j hi hj = (L.set i y).set j x := by unfold Hp.sw; rw [HX.out.1, HX.out.2]
      rw [e]
      have k1 := heapAt_set HH.out rfl i y hi
      have k2 := heapAt_set k1.1 (by simp) j x (by simpa using hj)
      have k3 := heapAt_drew k2.1
      have k4 := (k1.2.trans k2.2).drew
      unfold s7 at k3 k4
      exact ⟨rfl, k3, k4⟩
end Go.Proofs.Ytldlpbfncgcimaa
