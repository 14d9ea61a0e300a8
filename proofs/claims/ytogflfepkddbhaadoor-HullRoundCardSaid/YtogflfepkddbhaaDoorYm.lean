/- rows of points of a call's own: cloned, stored into, cleared; the library's Compact -/
import Derived.Test.YtogflfepkddbhaaDoorYl
import Derived.Lib.SlicesCompact
import Derived.Lib.SliceRun
namespace Go.Proofs.YtogflfepkddbhaaDoor
set_option linter.unusedVariables false
open Go.ChangeShapes Go.WideShapes Go.ChangeAt Go.RowKit Go.Sort

abbrev zP : Value := .agg #[.int .i64 0, .int .i64 0]
theorem lsP_news {w : World} {B off n : Nat} {X Y : Nat → Int} (h : ∀ k, k < n → w.cell? ⟨B, off + k * 2, none⟩ = some (.int .i64 (X k)) ∧ w.cell? ⟨B, off + k * 2 + 1, none⟩ = some (.int .i64 (Y k))) :
    ∀ j u, (rowL (lsP n X Y))[j]? = some u → w.cell? ((⟨B, off, none⟩ : Addr).add j) = some u := fun j u hu => by
  have hj : j < n * 2 := by have := (List.getElem?_eq_some_iff.1 hu).1; rwa [rowL_len, lsP_len] at this
  rw [rowL_get _ _ (by rw [lsP_len]; exact hj), lsP_at (show j / 2 < n by omega)] at hu
  rw [addr_add]
  obtain ⟨h0, h1⟩ := h (j / 2) (by omega)
  rcases Nat.mod_two_eq_zero_or_one j with e | e
  · rw [e] at hu
    rw [show off + j = off + j / 2 * 2 by omega, h0]
    exact hu
  · rw [e] at hu
    rw [show off + j = off + j / 2 * 2 + 1 by omega, h1]
    exact hu
theorem rowL_news {w : World} {base g n cap : Nat} {l : List Hp.Pt} (h : OwnP w base (.slice (some ⟨g, 0, none⟩) n cap) l) : ∀ j u, (rowL l)[j]? = some u → w.cell? ((⟨g, 0, none⟩ : Addr).add j) = some u := fun j u hu => by
  have hj : j < l.length * 2 := by have := (List.getElem?_eq_some_iff.1 hu).1; rwa [rowL_len] at this
  obtain ⟨-, -, rfl, -⟩ := ownP_blk h
  rw [addr_add, Nat.zero_add]
  unfold OwnP at h
  rw [h.cellAt j hj]; exact hu
set_option maxHeartbeats 2000000 in
set_option maxRecDepth 100000 in
theorem c_clP {n : Nat} {X Y : Nat → Int} {v : Value} (W : World) (h : Pts W v n X Y) (h1 : 1 ≤ n) (hn : n ≤ 1000) :
    Calls Tryd.prog 25 #[v] W fun e w' => ∃ u, e = .returned u ∧ OwnP w' W.heap.size u (lsP n X Y) ∧ Gr W w' := by
  obtain ⟨i0, hi0, hz0, hz1, hz2⟩ := info_parts (P := Tryd.prog) (e := 30) (z := zP) (size := 2) (bytes := 16) (by kernel_rfl)
  have HI := Lib.hid (And.intro hi0 (And.intro hz0 (And.intro hz1 hz2)))
  obtain ⟨ad, cap, B, off, rfl, h2, h3, h4, h5⟩ := h
  obtain rfl := h4 (by omega)
  have zB := World.block_lt_of_cell? _ _ (h5 0 (by omega)).1
  have HX := Lib.hid h5
  have q22 : ∀ (w : World) (a : Option Addr) (n c n' c' : Nat), (binOp .eql 22 (.slice a n c) (.slice none n' c')).run Tryd.prog w = .ok (.bool a.isNone) w := fun w a n c n' c' => Lib.run_eql_slice_nil w _ _ a n c n' c' Tryd.underlying22
  clear hi0 hz0 hz1 hz2 h4 h5
  go_enter Tryd.func25, Tryd.ntmps25
  go_wp2_with (at_builtin; (refine wpList_append_own2 _ rfl (.tmp 5) (.tmp 6) 22 rfl W.heap.size 30 i0 zP 2 16 Tryd.underlying22 HI.out.1 HI.out.2.1 HI.out.2.2.1 HI.out.2.2.2 rfl (by decide) _ 0 [] rfl (World.ownsRow_made W #[] 0 (Nat.le_refl _) (Nat.zero_le _) (by simp)) ⟨B, off, none⟩ n cap (rowL (lsP n X Y)) rfl (by rw [rowL_len, lsP_len]) (lsP_news fun k hk => ⟨cell_gr ((Below.refl _ W).alloc (Nat.le_refl _) _) (HX.out k hk).1, cell_gr ((Below.refl _ W).alloc (Nat.le_refl _) _) (HX.out k hk).2⟩) (rowL_one _) (by unfold maxLen; omega) (by omega) (by simp) ?_); intro u w1 o1 g1)
  go_wp2_with fail
  go_ret
  refine ⟨u, rfl, ?_, ?_⟩
  · unfold OwnP; rw [lsP_len]; simpa using o1
  · exact g1.gr ((Below.refl _ W).alloc (Nat.le_refl _) _) (fun k hk => by cases hk; exact Nat.le_refl _)

theorem rowL_set : ∀ (l : List Hp.Pt) (i : Nat) (p : Hp.Pt), rowL (l.set i p) = ((rowL l).set (i * 2) (.int .i64 p.1)).set (i * 2 + 1) (.int .i64 p.2)
  | [], i, p => by simp [rowL]
  | q :: l, 0, p => by simp [rowL]
  | q :: l, i + 1, p => by
    have := rowL_set l i p
    rw [show (i + 1) * 2 = i * 2 + 1 + 1 by omega]
    simp [rowL, this]
theorem ownP_set {w : World} {base g n cap : Nat} {l : List Hp.Pt} (h : OwnP w base (.slice (some ⟨g, 0, none⟩) n cap) l) (i : Nat) (p : Hp.Pt) :
    OwnP ((w.setCell ⟨g, i * 2, none⟩ (.int .i64 p.1)).setCell ⟨g, i * 2 + 1, none⟩ (.int .i64 p.2)) base (.slice (some ⟨g, 0, none⟩) n cap) (l.set i p) := by
  obtain ⟨-, -, rfl, -⟩ := ownP_blk h
  unfold OwnP at *
  rw [List.length_set, rowL_set]
  exact ((h.stored (i * 2) (.int .i64 p.1)).1.stored (i * 2 + 1) (.int .i64 p.2)).1
theorem own_setCells {base g n cap : Nat} {e : TypeId} {xs : List Value} : ∀ (vs : List Value) (w : World) (j : Nat), w.ownsRow base e 2 (.slice (some ⟨g, 0, none⟩) n cap) n xs → xs.length ≤ j → (w.setCells g j vs).ownsRow base e 2 (.slice (some ⟨g, 0, none⟩) n cap) n xs
  | [], w, j, h, _ => h
  | v :: vs, w, j, h, hj => by
    have h1 := (h.stored j v).1
    rw [List.set_eq_of_length_le hj] at h1
    exact own_setCells vs _ (j + 1) h1 (by omega)
theorem gr_setCells {W : World} {g : Nat} (hg : W.heap.size ≤ g) : ∀ (vs : List Value) (w : World) (j : Nat), Gr W w → Gr W (w.setCells g j vs)
  | [], w, j, h => h
  | v :: vs, w, j, h => gr_setCells hg vs _ (j + 1) (h.setCell (p := ⟨g, j, none⟩) hg v)
theorem hk_cells {w : World} {base g n cap : Nat} {l : List Hp.Pt} (h : OwnP w base (.slice (some ⟨g, 0, none⟩) n cap) l) {i : Nat} (hi : i < l.length) :
    w.cell? ⟨g, i * 2, none⟩ = some (.int .i64 (l.getD i (0, 0)).1) ∧ w.cell? ⟨g, i * 2 + 1, none⟩ = some (.int .i64 (l.getD i (0, 0)).2) ∧ w.frozen? ⟨g, i * 2, none⟩ = false ∧ w.frozen? ⟨g, i * 2 + 1, none⟩ = false := by
  obtain ⟨-, -, rfl, -⟩ := ownP_blk h
  unfold OwnP at h
  have e := rowL_at l i hi
  exact ⟨(h.cellAt (i * 2) (by omega)).trans e.1, (h.cellAt (i * 2 + 1) (by omega)).trans e.2, h.frozenAt _, h.frozenAt _⟩
/-- What a clear of points does: cells of the row alone are turned. -/
theorem run_clearP (w : World) (ty : TypeId) (b o n c : Nat) (hc : ∀ j, j < n * 2 → (w.cell? ⟨b, o + j, none⟩).isSome = true) (hf : ∀ j, j < n * 2 → w.frozen? ⟨b, o + j, none⟩ = false) :
    ∃ vs : List Value, (Builtin.clear_ #[22] ty #[.slice (some ⟨b, o, none⟩) n c]).run Tryd.prog w = .ok (.tuple #[]) (w.setCells b o vs) := by
  by_cases h0 : n = 0
  · subst h0
    exact ⟨[], by simp [Builtin.clear_, run_underlying Tryd.underlying22, World.setCells]⟩
  have hz : (Builtin.zeroCells zP.cells n).toList = List.replicate (n * 2) (.int .i64 0) := by
    apply List.ext_getElem
    · simp [Builtin.zeroCells, Value.cells]
    · intro i h1 h2
      rcases Nat.mod_two_eq_zero_or_one i with e | e <;> simp [Builtin.zeroCells, Value.cells, e]
  have hst := run_storeCells_cells (P := Tryd.prog) b o (List.replicate (n * 2) (.int .i64 0)) 0 w (by simpa using hc) (by simpa using hf) (by intro v hv'; rw [List.eq_of_mem_replicate hv']; rfl)
  simp only [Nat.add_zero] at hst
  obtain ⟨m, rfl⟩ : ∃ m, n = m + 1 := ⟨n - 1, by omega⟩
  exact ⟨List.replicate ((m + 1) * 2) (.int .i64 0), by simp [Builtin.clear_, run_underlying Tryd.underlying22, Tryd.zeroValue30, hz, hst]⟩
theorem cmp_upto (l : List Hp.Pt) : ∀ m, m ≤ l.length → Lib.compactUpTo l.toArray m = Hp.cmpc (l.take m)
  | 0, _ => by simp [Lib.compactUpTo, Hp.cmpc]
  | m + 1, h => by
    rw [Lib.compactUpTo_succ, cmp_upto l m (by omega), List.take_add_one, List.getElem?_eq_getElem (by omega), Option.toList_some, Hp.cmpc_snoc]
    have e1 : l.toArray[m]! = l[m] := by rw [getElem!_pos _ m (by simp; omega)]; simp
    by_cases h0 : m = 0
    · subst h0
      rw [Lib.keeps_lt_one _ 0 (by omega), e1]
      simp [Hp.cmpc]
    · have e2 : l.toArray[m - 1]! = l[m - 1] := by rw [getElem!_pos _ (m - 1) (by simp; omega)]; simp
      have e3 : (l.take m).getLast? = some l[m - 1] := by
        rw [List.getLast?_eq_getElem?, List.length_take, Nat.min_eq_left (by omega), List.getElem?_take, if_pos (by omega), List.getElem?_eq_getElem (by omega)]
      rw [e3, e1]
      by_cases c : l[m - 1] = l[m]
      · have k := Lib.keeps_neg (d := l.toArray) (m := m) (by omega) (by rw [e1, e2, c])
        rw [k, if_pos (congrArg some c)]; simp
      · have k := Lib.keeps_pos (d := l.toArray) (m := m) (by rw [e1, e2]; exact fun h => c h.symm)
        rw [k, if_neg (fun h => c (Option.some.inj h))]; simp
end Go.Proofs.YtogflfepkddbhaaDoor
