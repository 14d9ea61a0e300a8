/- a row of bytes that is known whole, to its block's end: append with room, copy, store -/
import Derived.Test.YtilijbplfobneaaDoorDf
import Derived.Test.YtilijbplfobneaaDoorDh
import Derived.Test.YtilijbplfobneaaDoorFc
import Derived.Test.YtilijbplfobneaaDoorFh
import Derived.Test.YtilijbplfobneaaDoorFi
namespace Go.Proofs.YtilijbplfobneaaDoor
set_option linter.unusedVariables false
set_option linter.unusedSimpArgs false
open Go.ChangeShapes Go.WideShapes Go.ChangeAt Go.RowKit Go.Maps

/-- Block g holds just these bytes. -/
def Full (w : World) (g n : Nat) (L : List UInt8) : Prop := L.length = n ∧ n ≤ maxLen ∧ w.heap[g]? = some (.cells (L.map bv).toArray 5 (0, 0))
theorem full_own {w : World} {g n : Nat} {L : List UInt8} (h : Full w g n L) {base : Nat} (hb : base ≤ g) : Own w base (.slice (some ⟨g, 0, none⟩) n n) L := by
  obtain ⟨rfl, h2, h3⟩ := h
  exact ⟨by simp, .inr ⟨g, L.length, _, rfl, hb, h3, Nat.le_refl _, h2, by simp, by rw [Nat.mul_one, List.take_of_length_le (by simp)]⟩⟩
theorem own_full {w : World} {g n base : Nat} {L : List UInt8} (h : Own w base (.slice (some ⟨g, 0, none⟩) n n) L) (hn : n = L.length) : Full w g n L := by
  subst hn
  rcases h.2 with ⟨e, _⟩ | ⟨g', cap, cur, e, hb, hg, hn, hc, hcs, ht⟩
  · cases e
  · simp only [Value.slice.injEq, Option.some.injEq, Addr.mk.injEq, and_true, true_and] at e
    obtain ⟨rfl, rfl⟩ := e
    rw [Nat.mul_one] at hcs ht
    refine ⟨rfl, hc, ?_⟩
    rw [hg, ← ht, List.take_of_length_le (by rw [Array.length_toList, hcs]; exact Nat.le_refl _)]
theorem full_kx {a b : World} {S : Nat → Prop} {g n : Nat} {L : List UInt8} (h : Full a g n L) (K : Kx S a b) (hS : ¬ S g) : Full b g n L := ⟨h.1, h.2.1, heap_kx K hS h.2.2⟩
theorem full_gr {a b : World} {g n : Nat} {L : List UInt8} (h : Full a g n L) (K : Gr a b) : Full b g n L := full_kx (S := fun _ => False) h (Kx.of_gr K) (fun h => h)
theorem full_rowN {w : World} {g n : Nat} {L : List UInt8} (h : Full w g n L) : w.ownsRow 0 5 1 (.slice (some ⟨g, 0, none⟩) n n) n (L.map bv) := by
  have o := full_own h (Nat.zero_le g)
  unfold Own at o
  rw [h.1] at o
  exact o
theorem full_cell {w : World} {g n j : Nat} {L : List UInt8} (h : Full w g n L) (hj : j < n) : w.cell? ⟨g, j, none⟩ = some (bv (L.getD j 0)) ∧ w.frozen? ⟨g, j, none⟩ = false ∧ g < w.heap.size := by
  have o := full_rowN h
  refine ⟨?_, o.frozenAt j, (World.ownsRow.lt o g rfl).2⟩
  rw [o.cellAt j (by omega), List.getElem?_map, List.getD_eq_getElem?_getD, List.getElem?_eq_getElem (by rw [h.1]; exact hj)]
  rfl
theorem full_set {w : World} {g n k : Nat} {L : List UInt8} (h : Full w g n L) (x : UInt8) : Full (w.setCell ⟨g, k, none⟩ (bv x)) g n (L.set k x) := by
  have o := (full_rowN h).stored k (bv x)
  refine own_full (base := 0) ?_ (by rw [List.length_set, h.1])
  have := o.1
  unfold Own
  rw [List.length_set, h.1, List.map_set]
  exact this
theorem full_set_kx {w : World} {g k : Nat} (x : Value) : Kx (fun j => j = g) w (w.setCell ⟨g, k, none⟩ x) := (Kx.refl (S := fun j => j = g) w).setCell (p := ⟨g, k, none⟩) rfl _
theorem full_row {w : World} {g n : Nat} {L : List UInt8} (h : Full w g n L) : Row w (.slice (some ⟨g, 0, none⟩) n n) L := row_own (full_own h (Nat.zero_le g))
/-- The row from a place on. -/
theorem full_from {w : World} {g n k : Nat} {L : List UInt8} (h : Full w g n L) (hk : k < n) (hn : n ≤ 1000000) : (∀ w0, (Instr.slice 35 (.slice (some ⟨g, 0, none⟩) n n) (some (.int .i64 k)) none none).run Tryd.prog w0 = .ok (.slice (some ⟨g, k, none⟩) (n - k) (n - k)) w0) ∧ Row w (.slice (some ⟨g, k, none⟩) (n - k) (n - k)) (L.drop k) := by
  have hs : sliced (some ⟨g, 0, none⟩) k n n 1 = .slice (some ⟨g, k, none⟩) (n - k) (n - k) := by
    unfold sliced
    rw [if_neg (by omega)]
    show Value.slice (some ((⟨g, 0, none⟩ : Addr).add (k * 1))) _ _ = _
    rw [show (⟨g, 0, none⟩ : Addr).add (k * 1) = ⟨g, k, none⟩ from by unfold Addr.add; split <;> simp_all]
  refine ⟨fun w0 => by rw [run_from (by omega), hs], ?_⟩
  have hl : (L.drop k).length = n - k := by rw [List.length_drop, h.1]
  refine ⟨some ⟨g, k, none⟩, n - k, g, k, by rw [hl], by rw [hl]; exact Nat.le_refl _, by omega, fun _ => rfl, fun j hj => ?_⟩
  rw [hl] at hj
  have hj' : k + j < L.length := by rw [h.1]; omega
  rw [(full_cell h (show k + j < n by omega)).1, List.getD_eq_getElem?_getD, List.getElem?_eq_getElem hj', List.getElem_drop]
  rfl
/-- .. and at its end too: there the address says nothing. -/
theorem full_tail {w : World} {g n k : Nat} {L : List UInt8} (h : Full w g n L) (hk : k ≤ n) (hn : n ≤ 1000000) : ∃ off, (k < n → off = k) ∧ ∀ w0, (Instr.slice 35 (.slice (some ⟨g, 0, none⟩) n n) (some (.int .i64 k)) none none).run Tryd.prog w0 = .ok (.slice (some ⟨g, off, none⟩) (n - k) (n - k)) w0 := by
  by_cases e : k < n
  · exact ⟨k, fun _ => rfl, (full_from h e hn).1⟩
  · obtain rfl : k = n := by omega
    refine ⟨0, fun h => absurd h e, fun w0 => ?_⟩
    rw [run_from (by omega)]
    unfold sliced
    rw [if_pos rfl]
set_option maxRecDepth 100000 in
/-- Bytes are appended, with room. -/
theorem wpList_app_full {w : World} {ops : Array Oper} {rest : List Oper} {o : Oper} {a : Act} {Q : Exit → Act → World → Prop} (hgd : o.guard = none) (s x : Operand)
    (ho : o.op = .call { callee := .builtin .append, args := #[s, x], argTypes := #[35, 35] }) (i0 : TypeInfo) (hi : Tryd.prog.info? 5 = some i0) (h1 : i0.size = 1)
    (g n k : Nat) (L M : List UInt8) (hs : a.eval s = .slice (some ⟨g, 0, none⟩) k n) (hF : Full w g n L) (ad : Addr) (m c : Nat) (hx : a.eval x = .slice (some ad) m c) (hm : M.length = m)
    (hnews : ∀ j u, (M.map bv)[j]? = some u → w.cell? (ad.add j) = some u) (hr : k + m ≤ n)
    (h : ∀ (u : Unit) (w' : World), Full w' g n (splice L k M) → Kx (fun j => j = g) w w' → wpList Tryd.prog ops Q rest (a.put o.dst (.slice (some ⟨g, 0, none⟩) (k + m) n)) w') : wpList Tryd.prog ops Q (o :: rest) a w := by
  obtain ⟨e1, e2, e3⟩ := hF
  have hcs : (L.map bv).toArray.size = n := by simp [e1]
  have hr' := run_append_room (P := Tryd.prog) w 35 o.type 5 i0 Tryd.underlying35 hi g k n _ e3 ad m c (M.map bv) (by rw [h1]; simp [hm]) hnews (bv_one M) hr (by rw [h1, hcs]; simp; omega)
  refine wpList_plain hgd fun K hK => ?_
  unfold Oper.wp execOp
  simp only [ho, resolve, invoke, builtin, Sem.run_bind, Sem.run_pure, Result.andThen_ok, List.map_toArray, List.map_cons, List.map_nil, hs, hx, hr']
  refine hK _ _ (h () _ ⟨by rw [length_splice _ _ _ (by omega)]; exact e1, e2, ?_⟩ ⟨rfl, rfl, rfl, by simp [World.setRow], fun k _ hk => setRow_other w g k _ hk⟩)
  rw [setRow_heap w g _ _ _ _ e3]
  congr 3
  rw [h1, Nat.mul_one]
  unfold splice
  simp [List.map_take, List.map_drop]
set_option maxRecDepth 100000 in
/-- The same, as one step of a region that draws. -/
theorem step_app_full {w : World} {ops : Array Oper} {o : Oper} {a : Act} {K : Act → World → Prop} {Q : Exit → Act → World → Prop} {E : Prop} (hgd : o.guard = none) (s x : Operand)
    (ho : o.op = .call { callee := .builtin .append, args := #[s, x], argTypes := #[35, 35] }) (i0 : TypeInfo) (hi : Tryd.prog.info? 5 = some i0) (h1 : i0.size = 1)
    (g n k : Nat) (L M : List UInt8) (hs : a.eval s = .slice (some ⟨g, 0, none⟩) k n) (hF : Full w g n L) (ad : Addr) (m c : Nat) (hx : a.eval x = .slice (some ad) m c) (hm : M.length = m)
    (hnews : ∀ j u, (M.map bv)[j]? = some u → w.cell? (ad.add j) = some u) (hr : k + m ≤ n)
    (h : ∀ (w' : World), Full w' g n (splice L k M) → Kx (fun j => j = g) w w' → K (a.put o.dst (.slice (some ⟨g, 0, none⟩) (k + m) n)) w') : if Region.wanted o (yielded ops a.tmps) = true then Oper.wp Tryd.prog o a w K Q else E := by
  have hw : Region.wanted o (yielded ops a.tmps) = true := by simp [Region.wanted, hgd]
  rw [if_pos hw]
  obtain ⟨e1, e2, e3⟩ := hF
  have hcs : (L.map bv).toArray.size = n := by simp [e1]
  have hr' := run_append_room (P := Tryd.prog) w 35 o.type 5 i0 Tryd.underlying35 hi g k n _ e3 ad m c (M.map bv) (by rw [h1]; simp [hm]) hnews (bv_one M) hr (by rw [h1, hcs]; simp; omega)
  unfold Oper.wp execOp
  simp only [ho, resolve, invoke, builtin, Sem.run_bind, Sem.run_pure, Result.andThen_ok, List.map_toArray, List.map_cons, List.map_nil, hs, hx, hr']
  refine h _ ⟨by rw [length_splice _ _ _ (by omega)]; exact e1, e2, ?_⟩ ⟨rfl, rfl, rfl, by simp [World.setRow], fun k _ hk => setRow_other w g k _ hk⟩
  rw [setRow_heap w g _ _ _ _ e3]
  congr 3
  rw [h1, Nat.mul_one]
  unfold splice
  simp [List.map_take, List.map_drop]
/-- Bytes are copied into a row that is known whole. -/
theorem wpList_copy_full {w : World} {ops : Array Oper} {rest : List Oper} {o : Oper} {a : Act} {Q : Exit → Act → World → Prop} (hgd : o.guard = none) (d s : Operand)
    (ho : o.op = .call { callee := .builtin .copy, args := #[d, s], argTypes := #[35, 35] })
    (g n off k dLen dCap : Nat) (G L : List UInt8) (v : Value) (hF : Full w g n G) (hd : a.eval d = .slice (some ⟨g, off, none⟩) dLen dCap) (hs : a.eval s = v) (hv : Row w v L) (hl : L.length ≤ dLen) (hoff : 0 < L.length → off = k) (hf : k + L.length ≤ n)
    (h : ∀ (u : Unit) (w' : World), Full w' g n (splice G k L) → Kx (fun j => j = g) w w' → wpList Tryd.prog ops Q rest (a.put o.dst (goInt L.length)) w') : wpList Tryd.prog ops Q (o :: rest) a w := by
  obtain ⟨ad, c, B, boff, rfl, r1, r2, r3, r4⟩ := id hv
  by_cases h0 : 0 < L.length
  · obtain rfl := hoff h0
    obtain rfl := r3 h0
    exact wpList_copy_bytes hgd d s ho 0 g n n G (full_own hF (Nat.zero_le _)) off dLen dCap hd L B boff L.length c hs hv hl (by rw [hF.1]; exact hf) (fun w' o' K => h () w' (own_full o' (by rw [length_splice _ _ _ (by rw [hF.1]; exact hf), hF.1])) K)
  · have e : L = [] := List.eq_nil_of_length_eq_zero (by omega)
    subst e
    refine wpList_copy_nothing hgd d s 35 35 ho 5 Tryd.underlying35 (by kernel_rfl) (some ⟨g, off, none⟩) ad dLen dCap 0 c hd hs (by simp) ?_
    refine h () w ?_ (Kx.refl w)
    have e : splice G k ([] : List UInt8) = G := by unfold splice; simp
    rw [e]
    exact hF
set_option maxRecDepth 100000 in
theorem make512 : ∃ o : Obj, (∀ w : World, (Instr.makeSlice 35 (.int .i64 0) (.int .i64 512)).run Tryd.prog w = .ok (.slice (some ⟨w.heap.size, 0, none⟩) 0 512) (w.alloc o)) ∧ ∀ w : World, Full (w.alloc o) w.heap.size 512 (List.replicate 512 0) :=
  ⟨.cells (Array.replicate 512 (.int .u8 0)) 5, fun w => by kernel_rfl, fun w => by
    have h := World.ownsRow_lit (base := 0) (e := 5) (size := 1) w (Array.replicate 512 (.int .u8 0)) 512 (Nat.zero_le _) (by decide) (by rw [Array.size_replicate])
    refine own_full (base := 0) ?_ List.length_replicate.symm
    unfold Own
    rw [List.length_replicate, List.map_replicate]
    rw [Array.toList_replicate] at h
    exact h⟩
end Go.Proofs.YtilijbplfobneaaDoor
