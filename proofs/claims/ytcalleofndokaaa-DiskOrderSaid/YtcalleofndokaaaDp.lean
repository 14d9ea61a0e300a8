/- DiskOrder -/
import Derived.Test.YtcalleofndokaaaDo
namespace Go.Proofs.Ytcalleofndokaaa
set_option linter.unusedVariables false
set_option linter.unusedSimpArgs false
open Go.ChangeShapes Go.WideShapes Go.ChangeAt Go.RowKit Go.Maps

/-- The sectors from the last one on. -/
def revs (n : Nat) : Nat → List Nat
  | 0 => []
  | i + 1 => revs n i ++ [n - 1 - i]
theorem revs_mem (n : Nat) : ∀ i k, k ∈ revs n i → ∃ j, j < i ∧ k = n - 1 - j
  | 0, k, h => by cases h
  | i + 1, k, h => by
    rcases List.mem_append.1 h with h | h
    · obtain ⟨j, h1, h2⟩ := revs_mem n i k h
      exact ⟨j, by omega, h2⟩
    · exact ⟨i, by omega, by simpa using h⟩
theorem revs_len (n : Nat) : ∀ i, (revs n i).length = i
  | 0 => rfl
  | i + 1 => by simp [revs, revs_len n i]
theorem revs_get (n : Nat) : ∀ i j, j < i → (revs n i).getD j 0 = n - 1 - j
  | 0, j, h => absurd h (Nat.not_lt_zero _)
  | i + 1, j, h => by
    rw [List.getD_eq_getElem?_getD]
    by_cases e : j < i
    · rw [revs, List.getElem?_append_left (by rw [revs_len]; exact e), ← List.getD_eq_getElem?_getD]
      exact revs_get n i j e
    · obtain rfl : j = i := by omega
      rw [revs, List.getElem?_append_right (by rw [revs_len]; exact Nat.le_refl _), revs_len, Nat.sub_self]
      rfl
theorem revs_not {n i : Nat} (h : i < n) : n - 1 - i ∉ revs n i := fun hm => by
  obtain ⟨j, h1, h2⟩ := revs_mem n i _ hm
  omega
theorem revs_all {n k : Nat} (h : k < n) : k ∈ revs n n := by
  have e := revs_get n n (n - 1 - k) (by omega)
  rw [List.getD_eq_getElem?_getD, List.getElem?_eq_getElem (by rw [revs_len]; omega)] at e
  have e2 : (revs n n)[n - 1 - k]'(by rw [revs_len]; omega) = k := by
    have : n - 1 - (n - 1 - k) = k := by omega
    rw [this] at e
    exact e
  rw [← e2]
  exact List.getElem_mem _
/-- One flag alone. -/
def oneF (n k : Nat) : List Bool := (List.replicate n false).set k true
theorem oneF_len (n k : Nat) : (oneF n k).length = n := by simp [oneF]
theorem oneF_get {n k j : Nat} (hj : j < n) : (oneF n k).getD j false = decide (j = k) := by
  unfold oneF
  rw [List.getD_eq_getElem?_getD, List.getElem?_set]
  by_cases e : k = j
  · subst e
    simp [hj]
  · rw [if_neg e, List.getElem?_replicate, if_pos hj]
    rw [decide_eq_false (fun h => e h.symm)]
    rfl
theorem oneF_crM {n k j : Nat} (hj : j < n) : crM (oneF n k) (-1) j = if j = k then 2 else 0 := by
  unfold crM
  rw [if_neg (by omega), oneF_len, Nat.mod_eq_of_lt hj, oneF_get hj]
  by_cases e : j = k
  · rw [if_pos e, if_pos ⟨by omega, decide_eq_true e⟩]
  · rw [if_neg e, if_neg (fun h => by rw [decide_eq_false e] at h; cases h.2)]
theorem bools_own {w : World} {base K n : Nat} {L : List Bool} (h : w.ownsRow base 4 1 (.slice (some ⟨K, 0, none⟩) n n) n (L.map Value.bool)) (hl : L.length = n) (hn : n ≤ 1000000) : Bools w (.slice (some ⟨K, 0, none⟩) n n) L := by
  refine ⟨some ⟨K, 0, none⟩, n, K, 0, by rw [hl], by omega, by omega, fun _ => rfl, fun j hj => ?_⟩
  have := h.cellAt j (by omega)
  rw [Nat.zero_add, this, List.getElem?_map, List.getElem?_eq_getElem hj, List.getD_eq_getElem?_getD, List.getElem?_eq_getElem hj]
  rfl
theorem oneF_map (n k : Nat) : (List.replicate n (Value.bool false)).set k (.bool true) = (oneF n k).map Value.bool := by
  unfold oneF
  rw [List.map_set, List.map_replicate]
/-- What the crash leaves of a sector. -/
theorem order_sec {W w : World} {p C n cnt q bm k i : Nat} {M : Option Nat} {F : Nat → List UInt8} {d : Dk} {xs : List Value} (h : OrdS W w p C n cnt (revs n n) F q bm M d xs) (hk : k < n) (hi : i < n) :
    sec (crG d (crM (oneF n k) (-1)) d.ord.length) i = if i = n - 1 - k then F i else List.replicate 64 0 := by
  have hok := h.disk.ok
  have hn := h.plain.n
  have ho := h.ord
  have h1 := (crG_sec hok (crM (oneF n k) (-1)) d.ord.length (Nat.le_refl _) i (by rw [hn]; exact hi)).1 (n - 1 - i) (by rw [ho, revs_len]; omega) (by rw [ho, revs_get n n _ (by omega)]; omega)
  rw [h1, oneF_crM (by omega)]
  by_cases e : i = n - 1 - k
  · rw [if_pos (by omega), if_pos e]
    show d.F i = F i
    exact h.fun_ i (revs_all hi)
  · rw [if_neg (by omega), if_neg e]
    show sec d.good i = _
    rw [h.good]
    exact sec_zeros hi
theorem ordX_crash {W w : World} {p C n cnt k : Nat} {F : Nat → List UInt8} (h : OrdX W w p C n cnt (revs n n) F) (G : Gr W w) (hk : k < n) (hn : n ≤ 20) {kv : Value} (hK : Bools w kv (oneF n k)) :
    Calls Try.prog 24 #[.pointer (some ⟨p, 0, none⟩), kv, .int .i64 (-1)] w fun e w' => ∃ p' X, e = .returned (.pointer (some ⟨p', 0, none⟩)) ∧ LawD W w' p' (dk0 n X) ∧ (∀ i, i < n → sec X i = if i = n - 1 - k then F i else List.replicate 64 0) ∧ Gr w w' := by
  obtain ⟨q, bm, M, d, xs, h⟩ := h
  refine (lawD_crash ⟨q, bm, M, h.disk, h.new⟩ G (oneF n k) (-1) hK (by rw [oneF_len]; omega)).mono ?_
  rintro e w' ⟨p', rfl, h1, g⟩
  rw [h.plain.n] at h1
  exact ⟨p', _, rfl, h1, fun i hi => order_sec h hk hi, g⟩
/-- What is kept beside. -/
theorem ordX_want {W w : World} {p C n cnt i : Nat} {F : Nat → List UInt8} (h : OrdX W w p C n cnt (revs n n) F) (hi : i < n) : ∃ v, w.cell? ⟨C, i, none⟩ = some v ∧ Row w v (F i) := by
  obtain ⟨q, bm, M, d, xs, h⟩ := h
  obtain ⟨v, e, r⟩ := h.rows i (revs_all hi)
  exact ⟨v, by rw [(wantR_cell h.want i hi).1]; exact e, r.1⟩
theorem ordX_cell {W w : World} {p C n cnt i : Nat} {o : List Nat} {F : Nat → List UInt8} (h : OrdX W w p C n cnt o F) (hi : i < n) : (∃ a m c, w.cell? ⟨C, i, none⟩ = some (.slice a m c)) ∧ w.frozen? ⟨C, i, none⟩ = false ∧ C < w.heap.size := by
  obtain ⟨q, bm, M, d, xs, h⟩ := h
  have hl := wantR_len h.want
  obtain ⟨e1, e2⟩ := wantR_cell h.want i hi
  obtain ⟨a, m, c, e⟩ := h.want.2 (xs[i]'(by omega)) (List.getElem_mem _)
  exact ⟨⟨a, m, c, by rw [e1, List.getElem?_eq_getElem (by omega), e]⟩, e2, wantR_lt h.want⟩
theorem ordX_len {W w : World} {p C n cnt i : Nat} {F : Nat → List UInt8} (h : OrdX W w p C n cnt (revs n n) F) (hi : i < n) : (F i).length = 64 := by
  obtain ⟨q, bm, M, d, xs, h⟩ := h
  rw [← h.fun_ i (revs_all hi)]
  exact h.disk.ok.sz i (by rw [h.ord]; exact revs_all hi)
end Go.Proofs.Ytcalleofndokaaa
