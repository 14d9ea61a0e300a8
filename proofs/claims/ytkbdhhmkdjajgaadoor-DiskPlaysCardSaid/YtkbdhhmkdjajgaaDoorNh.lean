/- the document's disk: Write, where it is done -/
import Derived.Test.YtkbdhhmkdjajgaaDoorNg
namespace Go.Proofs.YtkbdhhmkdjajgaaDoor
set_option linter.unusedVariables false
set_option linter.unusedSimpArgs false
open Go.ChangeShapes Go.WideShapes Go.ChangeAt Go.RowKit Go.Maps

/-- A row of slices is appended. -/
theorem wpList_appS {w : World} {ops : Array Oper} {rest : List Oper} {o : Oper} {a : Act} {Q : Exit → Act → World → Prop} (hgd : o.guard = none) (s x : Operand)
    (ho : o.op = .call { callee := .builtin .append, args := #[s, x], argTypes := #[59, 59] })
    (base b2 : Nat) (v u : Value) (n m : Nat) (xs ys : List Value) (hs : a.eval s = v) (hO : w.ownsRow base 37 1 v n xs) (hx : a.eval x = u) (hR : w.ownsRow b2 37 1 u m ys) (h1 : ∀ y ∈ ys, y.oneCell' = true) (hl : n + m ≤ 1000000) (hb : base ≤ w.heap.size)
    (h : ∀ v' w', w'.ownsRow base 37 1 v' (n + m) (xs ++ ys) → Grown w w' v v' → wpList Tryd.prog ops Q rest (a.put o.dst v') w') : wpList Tryd.prog ops Q (o :: rest) a w := by
  obtain ⟨i0, hi0, hz0, hz1, hz2⟩ := info_parts (P := Tryd.prog) (e := 37) (z := .slice none 0 0) (size := 1) (bytes := 24) (by kernel_rfl)
  obtain ⟨D, ad, cap, rfl, a1, a2, a3, a4, a5⟩ := rowF hR
  exact wpList_append_row hgd s x 59 ho base 37 i0 (.slice none 0 0) 24 Tryd.underlying59 hi0 hz0 hz1 hz2 rfl v n xs hs hO ad m cap D 0 ys hx a1 (by have := hR.1; omega) (fun j u hu => by
    have hj := (List.getElem?_eq_some_iff.1 hu).1
    rw [Nat.zero_add, (a5 j (by have := hR.1; omega)).1, hu]) h1 (by unfold maxLen; omega) (by omega) hb h
theorem wpList_appI {w : World} {ops : Array Oper} {rest : List Oper} {o : Oper} {a : Act} {Q : Exit → Act → World → Prop} (hgd : o.guard = none) (s x : Operand)
    (ho : o.op = .call { callee := .builtin .append, args := #[s, x], argTypes := #[60, 60] })
    (base b2 : Nat) (v u : Value) (n m : Nat) (xs ys : List Value) (hs : a.eval s = v) (hO : w.ownsRow base 3 1 v n xs) (hx : a.eval x = u) (hR : w.ownsRow b2 3 1 u m ys) (h1 : ∀ y ∈ ys, y.oneCell' = true) (hl : n + m ≤ 1000000) (hb : base ≤ w.heap.size)
    (h : ∀ v' w', w'.ownsRow base 3 1 v' (n + m) (xs ++ ys) → Grown w w' v v' → wpList Tryd.prog ops Q rest (a.put o.dst v') w') : wpList Tryd.prog ops Q (o :: rest) a w := by
  obtain ⟨i0, hi0, hz0, hz1, hz2⟩ := info_parts (P := Tryd.prog) (e := 3) (z := .int .i64 0) (size := 1) (bytes := 8) (by kernel_rfl)
  obtain ⟨D, ad, cap, rfl, a1, a2, a3, a4, a5⟩ := rowF hR
  exact wpList_append_row hgd s x 60 ho base 3 i0 (.int .i64 0) 8 Tryd.underlying60 hi0 hz0 hz1 hz2 rfl v n xs hs hO ad m cap D 0 ys hx a1 (by have := hR.1; omega) (fun j u hu => by
    have hj := (List.getElem?_eq_some_iff.1 hu).1
    rw [Nat.zero_add, (a5 j (by have := hR.1; omega)).1, hu]) h1 (by unfold maxLen; omega) (by omega) hb h
theorem intL_one (l : List Nat) : ∀ u ∈ intL l, u.oneCell' = true := fun u hu => by
  unfold intL at hu
  obtain ⟨k, -, rfl⟩ := List.mem_map.1 hu
  rfl
theorem intL_snoc (l : List Nat) (k : Nat) : intL (l ++ [k]) = intL l ++ [.int .i64 (k : Nat)] := by unfold intL; rw [List.map_append]; rfl
section
variable {base q : Nat} {Z : Nat → Prop} {d : Dk} {gv av nv : Value} {gs ns : List Value} {dl : Int}
theorem refD_oneN {a : World} (h : RefD base a q Z d gv av nv gs ns dl) : ∀ u ∈ ns, u.oneCell' = true := fun u hu => by
  obtain ⟨j, hj, rfl⟩ := List.mem_iff_getElem.1 hu
  obtain ⟨v, e, r⟩ := h.nsl j (by have := h.new.1; omega)
  rw [List.getElem?_eq_getElem hj] at e
  obtain rfl := Option.some.inj e
  obtain ⟨ad, c, _, _, ev, _⟩ := r.1
  rw [ev]; rfl
theorem refD_oneG {a : World} (h : RefD base a q Z d gv av nv gs ns dl) : ∀ u ∈ gs, u.oneCell' = true := fun u hu => by
  obtain ⟨j, hj, rfl⟩ := List.mem_iff_getElem.1 hu
  obtain ⟨v, e, r⟩ := h.gsl j (by have := h.good.1; omega)
  rw [List.getElem?_eq_getElem hj] at e
  obtain rfl := Option.some.inj e
  rcases r with ⟨ev, -⟩ | r
  · rw [ev]; rfl
  · obtain ⟨ad, c, _, _, ev, _⟩ := r.1
    rw [ev]; rfl
theorem nod_ne {d : Dk} (h : d.ok) {i j : Nat} (hi : i < d.ord.length) (hj : j < d.ord.length) (hij : j ≠ i) : d.ord.getD j 0 ≠ d.ord.getD i 0 := fun e => by
  have e1 : d.ord.getD j 0 = d.ord[j] := by rw [List.getD_eq_getElem?_getD, List.getElem?_eq_getElem hj]; rfl
  have e2 : d.ord.getD i 0 = d.ord[i] := by rw [List.getD_eq_getElem?_getD, List.getElem?_eq_getElem hi]; rfl
  rw [e1, e2] at e
  exact hij ((List.getElem_inj h.nodup).1 e)
/-- A sector that waits is written again: what is left. -/
theorem wr_in_fin {a b : World} {d : Dk} {k i : Nat} {L : List UInt8} {x nv' : Value} (h : RefD base a q Z d gv av nv gs ns dl) (hz : ∀ k, Z k → k < a.heap.size) (hbs : base ≤ a.heap.size) (hi : i < d.ord.length) (hgi : d.ord.getD i 0 = k) (hL : L.length = 64)
    (K : Kx (fun k => k = q ∨ a.heap.size ≤ k) a b) (hb : b.heap[q]? = some (.cells #[gv, av, nv', .int .i64 (d.ops : Nat), .bool d.cut, .int .i64 dl, .bool d.off] 62 (0, 0)))
    (hn : b.ownsRow 0 37 1 nv' d.ord.length (ns.set i x)) (hnb : ∀ k, nv'.ownBlock = some k → a.heap.size ≤ k) (hx : RowOff b Z x L) : RTo base a q Z (d.wr k L) b := by
  have hm : k ∈ d.ord := by rw [← hgi, List.getD_eq_getElem?_getD, List.getElem?_eq_getElem hi]; exact List.getElem_mem hi
  have hk : k < d.n := h.ok.lt k hm
  have hO := refD_oth h
  have eo : (d.wr k L).ord = d.ord := by unfold Dk.wr Dk.wrO; rw [if_pos hm]
  obtain ⟨n1, n2, n3⟩ := refD_neq h
  have hA : b.ownsRow 0 3 1 av d.ord.length (intL d.ord) := rowOwn_kxS h.at_ K (fun j hj e => by
    have := (World.ownsRow.lt h.at_ j hj).2
    rcases e with e | e
    · exact n2 j hj e
    · omega)
  refine ⟨⟨gv, av, nv', gs, ns.set i x, dl, refD_put h hz hbs hb (wr_ok h.ok hk hL) h.lft (rowOwn_kxS h.good K (fun j hj e => ?_)) (fun j hj => ?_) (by rw [eo]; exact hA) (by rw [eo]; exact hn) (fun j hj => ?_) (fun k hk => Or.inl hk) (fun k hk => Or.inl hk) (fun k hk => Or.inr (hnb k hk))⟩, K⟩
  · have := (World.ownsRow.lt h.good j hj).2
    rcases e with e | e
    · exact n1 j hj e
    · omega
  · obtain ⟨v, e, r⟩ := h.gsl j hj
    exact ⟨v, e, gSl_oth r K hO⟩
  · rw [eo] at hj ⊢
    have hlen : ns.length = d.ord.length := by have := h.new.1; omega
    by_cases e : j = i
    · subst e
      refine ⟨x, List.getElem?_set_self (by omega), ?_⟩
      rw [hgi]
      show RowOff b Z x (if k = k then L else d.F k)
      rw [if_pos rfl]
      exact hx
    · obtain ⟨v, e1, r⟩ := h.nsl j hj
      refine ⟨v, by rw [List.getElem?_set_ne (fun h => e h.symm)]; exact e1, ?_⟩
      show RowOff b Z v (if d.ord.getD j 0 = k then L else d.F (d.ord.getD j 0))
      rw [if_neg (by rw [← hgi]; exact nod_ne h.ok hi hj e)]
      exact rowOff_oth r K hO
/-- A sector that did not wait is written: what is left. -/
theorem wr_out_fin {a b : World} {d : Dk} {k : Nat} {L : List UInt8} {x av' nv' : Value} (h : RefD base a q Z d gv av nv gs ns dl) (hz : ∀ k, Z k → k < a.heap.size) (hbs : base ≤ a.heap.size) (hk : k < d.n) (hm : k ∉ d.ord) (hL : L.length = 64)
    (K : Kx (fun k => k = q ∨ a.heap.size ≤ k) a b) (hb : b.heap[q]? = some (.cells #[gv, av', nv', .int .i64 (d.ops : Nat), .bool d.cut, .int .i64 dl, .bool d.off] 62 (0, 0)))
    (ha : b.ownsRow 0 3 1 av' (d.ord.length + 1) (intL d.ord ++ [.int .i64 (k : Nat)])) (hab : ∀ k, av'.ownBlock = some k → a.heap.size ≤ k)
    (hn : b.ownsRow 0 37 1 nv' (d.ord.length + 1) (ns ++ [x])) (hnb : ∀ k, nv'.ownBlock = some k → a.heap.size ≤ k) (hx : RowOff b Z x L) : RTo base a q Z (d.wr k L) b := by
  have hO := refD_oth h
  have eo : (d.wr k L).ord = d.ord ++ [k] := by unfold Dk.wr Dk.wrO; rw [if_neg hm]
  have el : (d.wr k L).ord.length = d.ord.length + 1 := by rw [eo]; simp
  obtain ⟨n1, n2, n3⟩ := refD_neq h
  refine ⟨⟨gv, av', nv', gs, ns ++ [x], dl, refD_put h hz hbs hb (wr_ok h.ok hk hL) h.lft (rowOwn_kxS h.good K (fun j hj e => ?_)) (fun j hj => ?_) (by rw [el, eo, intL_snoc]; exact ha) (by rw [el]; exact hn) (fun j hj => ?_) (fun k hk => Or.inl hk) (fun k hk => Or.inr (hab k hk)) (fun k hk => Or.inr (hnb k hk))⟩, K⟩
  · have := (World.ownsRow.lt h.good j hj).2
    rcases e with e | e
    · exact n1 j hj e
    · omega
  · obtain ⟨v, e, r⟩ := h.gsl j hj
    exact ⟨v, e, gSl_oth r K hO⟩
  · rw [el] at hj
    rw [eo]
    have hlen : ns.length = d.ord.length := by have := h.new.1; omega
    by_cases e : j = d.ord.length
    · subst e
      refine ⟨x, by rw [List.getElem?_append_right (by omega), hlen, Nat.sub_self]; rfl, ?_⟩
      have eg : (d.ord ++ [k]).getD d.ord.length 0 = k := by rw [List.getD_eq_getElem?_getD, List.getElem?_append_right (Nat.le_refl _), Nat.sub_self]; rfl
      rw [eg]
      show RowOff b Z x (if k = k then L else d.F k)
      rw [if_pos rfl]
      exact hx
    · have hj' : j < d.ord.length := by omega
      obtain ⟨v, e1, r⟩ := h.nsl j hj'
      refine ⟨v, by rw [List.getElem?_append_left (by omega)]; exact e1, ?_⟩
      have eg : (d.ord ++ [k]).getD j 0 = d.ord.getD j 0 := by rw [List.getD_eq_getElem?_getD, List.getD_eq_getElem?_getD, List.getElem?_append_left hj']
      rw [eg]
      show RowOff b Z v (if d.ord.getD j 0 = k then L else d.F (d.ord.getD j 0))
      have hne : d.ord.getD j 0 ≠ k := fun e => hm (by rw [← e, List.getD_eq_getElem?_getD, List.getElem?_eq_getElem hj']; exact List.getElem_mem hj')
      rw [if_neg hne]
      exact rowOff_oth r K hO
end
end Go.Proofs.YtkbdhhmkdjajgaaDoor
