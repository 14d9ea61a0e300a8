/- rows of points of a call's own: what they hold, cut short, put in order by the library's sorting -/
import Derived.Test.YtogflfepkddbhaaDoorGl
import Derived.Test.YtogflfepkddbhaaDoorYf
import Derived.Shelf.SlSortFuncK.RowK2
namespace Go.Proofs.YtogflfepkddbhaaDoor
set_option linter.unusedVariables false
open Go.ChangeShapes Go.WideShapes Go.ChangeAt Go.RowKit Go.Sort

/-- The cells of a row of points. -/
def rowL : List Hp.Pt → List Value
  | [] => []
  | p :: l => .int .i64 p.1 :: .int .i64 p.2 :: rowL l
theorem rowL_app : ∀ (l m : List Hp.Pt), rowL (l ++ m) = rowL l ++ rowL m
  | [], m => rfl
  | p :: l, m => by simp only [List.cons_append, rowL, rowL_app l m]
theorem rowL_len : ∀ l : List Hp.Pt, (rowL l).length = l.length * 2
  | [] => rfl
  | p :: l => by simp only [rowL, List.length_cons, rowL_len l]; omega
theorem rowL_one : ∀ (l : List Hp.Pt), ∀ u ∈ rowL l, u.oneCell' = true
  | [], u, h => by simp [rowL] at h
  | p :: l, u, h => by
    simp only [rowL, List.mem_cons] at h
    rcases h with rfl | rfl | h
    · rfl
    · rfl
    · exact rowL_one l u h
theorem rowL_at : ∀ (l : List Hp.Pt) (i : Nat), i < l.length → (rowL l)[i * 2]? = some (.int .i64 (l.getD i (0, 0)).1) ∧ (rowL l)[i * 2 + 1]? = some (.int .i64 (l.getD i (0, 0)).2)
  | [], i, h => by simp at h
  | p :: l, 0, _ => by simp [rowL]
  | p :: l, i + 1, h => by
    have := rowL_at l i (by simpa using h)
    rw [show (i + 1) * 2 = i * 2 + 1 + 1 by omega]
    simpa [rowL] using this
theorem rowL_take : ∀ (l : List Hp.Pt) (k : Nat), rowL (l.take k) = (rowL l).take (k * 2)
  | [], k => by simp [rowL]
  | p :: l, 0 => by simp [rowL]
  | p :: l, k + 1 => by
    rw [show (k + 1) * 2 = k * 2 + 1 + 1 by omega]
    simp only [List.take_succ_cons, rowL, rowL_take l k]
/-- A point's two cells. -/
def encP (p : Hp.Pt) : List Value := [.int .i64 p.1, .int .i64 p.2]
theorem encP_len (p : Hp.Pt) : (encP p).length = 2 := rfl
theorem encP_one (p : Hp.Pt) : ∀ v ∈ encP p, v.oneCell' = true := by
  intro v hv; simp [encP] at hv; rcases hv with rfl | rfl <;> rfl
theorem rowL_get : ∀ (l : List Hp.Pt) (j : Nat), j < l.length * 2 → (rowL l)[j]? = some ((encP (l.getD (j / 2) (0, 0)))[j % 2]!)
  | [], j, h => by simp at h
  | p :: l, 0, _ => by simp [rowL, encP]
  | p :: l, 1, _ => by simp [rowL, encP]
  | p :: l, j + 2, h => by
    have := rowL_get l j (by simp only [List.length_cons] at h; omega)
    rw [show (j + 2) / 2 = j / 2 + 1 by omega, show (j + 2) % 2 = j % 2 by omega]
    simpa [rowL] using this

/-- A row of points in a block of its own. -/
def OwnP (w : World) (base : Nat) (v : Value) (l : List Hp.Pt) : Prop := w.ownsRow base 30 2 v l.length (rowL l)
def fX (l : List Hp.Pt) (k : Nat) : Int := (l.getD k (0, 0)).1
def fY (l : List Hp.Pt) (k : Nat) : Int := (l.getD k (0, 0)).2
theorem ownP_pts {w : World} {base : Nat} {v : Value} {l : List Hp.Pt} (h : OwnP w base v l) : Pts w v l.length (fX l) (fY l) := by
  obtain ⟨h1, h2⟩ := h
  rcases h2 with ⟨rfl, h3⟩ | ⟨g, cap, cur, rfl, hb, hg, hc, hm, hs, ht⟩
  · rw [h3]
    exact ⟨none, 0, 0, 0, rfl, Nat.le_refl _, by decide, fun h => absurd h (by omega), fun k hk => absurd hk (by omega)⟩
  · refine ⟨_, cap, g, 0, rfl, hc, ?_, fun _ => rfl, fun k hk => ?_⟩
    · have : cap ≤ maxLen := hm
      have e : maxLen = 9223372036854775807 := rfl
      omega
    · have H : w.ownsRow base 30 2 (.slice (some ⟨g, 0, none⟩) l.length cap) l.length (rowL l) := ⟨h1, .inr ⟨g, cap, cur, rfl, hb, hg, hc, hm, hs, ht⟩⟩
      have e := rowL_at l k hk
      rw [Nat.zero_add]
      exact ⟨(H.cellAt (k * 2) (by omega)).trans e.1, (H.cellAt (k * 2 + 1) (by omega)).trans e.2⟩
theorem ownP_form {w : World} {base : Nat} {v : Value} {l : List Hp.Pt} (h : OwnP w base v l) (h0 : 0 < l.length) : ∃ g cap, v = .slice (some ⟨g, 0, none⟩) l.length cap ∧ base ≤ g ∧ g < w.heap.size ∧ l.length ≤ cap ∧ (cap : Int) ≤ 9223372036854775807 := row_form h h0
theorem ownP_gr {a b : World} {base : Nat} {v : Value} {l : List Hp.Pt} (h : OwnP a base v l) (g : Gr a b) : OwnP b base v l := rowOwn_gr h g
/-- Cut short. -/
theorem ownP_take {w : World} {base g n cap : Nat} {l : List Hp.Pt} (h : OwnP w base (.slice (some ⟨g, 0, none⟩) n cap) l) (k : Nat) (hk : k ≤ l.length) : OwnP w base (.slice (some ⟨g, 0, none⟩) k cap) (l.take k) := by
  obtain ⟨h1, h2⟩ := h
  have hl : (l.take k).length = k := by rw [List.length_take]; omega
  rcases h2 with ⟨h3, -⟩ | ⟨g', cap', cur, e, hb, hg, hc, hm, hs, ht⟩
  · cases h3
  · injection e with e1 e2 e3
    injection e1 with e1
    injection e1 with e1
    subst e1 e3
    refine ⟨by rw [rowL_len], .inr ⟨g, cap, cur, by rw [hl], hb, hg, by omega, hm, hs, ?_⟩⟩
    rw [hl, rowL_take, ← ht, List.take_take]
    congr 1; omega
theorem toArray_get (l : List Hp.Pt) (i : Nat) (hi : i < l.length) : l.toArray[i]! = l.getD i (0, 0) := by
  rw [getElem!_pos _ i (by simpa using hi)]
  simp [List.getD_eq_getElem?_getD, hi]
theorem ownP_holds {w : World} {base g n cap : Nat} {l : List Hp.Pt} (h : OwnP w base (.slice (some ⟨g, 0, none⟩) n cap) l) : HoldsK encP 2 w g 0 l.toArray := by
  intro j hj
  rw [size_flatK] at hj
  have hj2 : j < l.length * 2 := by simpa using hj
  obtain ⟨h1, h2⟩ := h
  rcases h2 with ⟨h3, -⟩ | ⟨g', cap', cur, e, hb, hg, hc, hm, hs, ht⟩
  · cases h3
  · injection e with e1 e2 e3
    injection e1 with e1
    injection e1 with e1
    subst e1 e2 e3
    have H : w.ownsRow base 30 2 (.slice (some ⟨g, 0, none⟩) l.length cap) l.length (rowL l) := ⟨h1, .inr ⟨g, cap, cur, rfl, hb, hg, hc, hm, hs, ht⟩⟩
    rw [Nat.zero_add, get_flatK _ _ _ _ hj, toArray_get l _ (by omega)]
    exact ⟨(H.cellAt j hj2).trans (rowL_get l j hj2), H.frozenAt j⟩
theorem ownP_blk {w : World} {base g n cap : Nat} {l : List Hp.Pt} (h : OwnP w base (.slice (some ⟨g, 0, none⟩) n cap) l) : base ≤ g ∧ g < w.heap.size ∧ n = l.length ∧ n ≤ cap := by
  obtain ⟨h1, h2⟩ := h
  rcases h2 with ⟨h3, -⟩ | ⟨g', cap', cur, e, hb, hg, hc, hm, hs, ht⟩
  · cases h3
  · injection e with e1 e2 e3
    injection e1 with e1
    injection e1 with e1
    subst e1 e2 e3
    exact ⟨hb, (Array.getElem?_eq_some_iff.1 hg).1, rfl, hc⟩
/-- Put in another order by the library: the row holds d; nothing else is touched. -/
theorem own_put {w : World} {base g n cap q : Nat} {l : List Hp.Pt} {d : Array Hp.Pt} {os : Array Obj} (h : OwnP w base (.slice (some ⟨g, 0, none⟩) n cap) l) (hd : d.size = l.length) :
    OwnP (Sort.grow (putRowK encP 2 (Sort.ahead w q) g 0 d) os) base (.slice (some ⟨g, 0, none⟩) n cap) d.toList := by
  obtain ⟨h1, h2⟩ := h
  rcases h2 with ⟨h3, -⟩ | ⟨g', cap', cur, e, hb, hg, hc, hm, hs, ht⟩
  · cases h3
  · injection e with e1 e2 e3
    injection e1 with e1
    injection e1 with e1
    subst e1 e2 e3
    have hlt := (Array.getElem?_eq_some_iff.1 hg).1
    have hg2 : (putRowK encP 2 (Sort.ahead w q) g 0 d).heap[g]? = some (.cells (Sort.putCells id 0 (flatK encP 2 d) cur) 30 (0, 0)) := by
      show (Sort.mapBlock (Sort.ahead w q) g _).heap[g]? = _
      simp only [Sort.mapBlock, Sort.ahead, Array.getElem?_modify, if_true]
      rw [hg]; rfl
    have hl : d.toList.length = l.length := by simpa using hd
    refine ⟨by rw [rowL_len], .inr ⟨g, cap, Sort.putCells id 0 (flatK encP 2 d) cur, by rw [hl], hb, ?_, by rw [hl]; exact hc, hm, ?_, ?_⟩⟩
    · show ((putRowK encP 2 (Sort.ahead w q) g 0 d).heap ++ os)[g]? = _
      rw [Array.getElem?_append_left (by rw [size_putRowK]; exact hlt)]
      exact hg2
    · simp [Sort.putCells, hs]
    · apply List.ext_getElem?
      intro j
      by_cases hj : j < d.toList.length * 2
      · rw [List.getElem?_take, if_pos hj, rowL_get _ _ hj]
        have hjc : j < cur.size := by rw [hs]; have := Nat.mul_le_mul_right 2 hc; omega
        simp only [Sort.putCells, Array.toList_mapIdx, List.getElem?_mapIdx, Array.getElem?_toList, Array.getElem?_eq_getElem hjc, Option.map_some, id]
        have hj3 : j < d.size * 2 := by rw [hd]; omega
        rw [if_pos ⟨Nat.zero_le _, by rw [size_flatK]; omega⟩, Nat.sub_zero, get_flatK _ _ _ _ hj3]
        have : d[j / 2]! = d.toList.getD (j / 2) (0, 0) := by
          rw [getElem!_pos d (j / 2) (by omega)]
          simp [List.getD_eq_getElem?_getD, show j / 2 < d.size by omega]
        rw [this]
      · rw [List.getElem?_take, if_neg hj, List.getElem?_eq_none (by rw [rowL_len]; omega)]
theorem gr_put {W w : World} {g q : Nat} {d : Array Hp.Pt} {os : Array Obj} (h : Gr W w) (hg : W.heap.size ≤ g) : Gr W (Sort.grow (putRowK encP 2 (Sort.ahead w q) g 0 d) os) := by
  have hs := h.size
  refine ⟨h.os, h.tape, h.output, ?_, fun k hk => ?_⟩
  · show W.heap.size ≤ ((putRowK encP 2 (Sort.ahead w q) g 0 d).heap ++ os).size
    rw [Array.size_append, size_putRowK]
    show W.heap.size ≤ w.heap.size + os.size
    omega
  · show ((putRowK encP 2 (Sort.ahead w q) g 0 d).heap ++ os)[k]? = _
    rw [Array.getElem?_append_left (by rw [size_putRowK]; show k < w.heap.size; omega)]
    have e : (putRowK encP 2 (Sort.ahead w q) g 0 d).heap[k]? = w.heap[k]? := by
      show (Sort.mapBlock (Sort.ahead w q) g _).heap[k]? = _
      simp only [Sort.mapBlock, Sort.ahead, Array.getElem?_modify]
      rw [if_neg (by omega)]
    rw [e]
    exact h.block k hk
end Go.Proofs.YtogflfepkddbhaaDoor
