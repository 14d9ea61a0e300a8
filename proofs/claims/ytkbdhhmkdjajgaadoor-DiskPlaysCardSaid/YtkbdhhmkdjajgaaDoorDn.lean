/- disk: Copy; nothing is no disk -/
import Derived.Test.YtkbdhhmkdjajgaaDoorDi
import Derived.Laws.Externs
import Derived.MapKept
namespace Go.Proofs.YtkbdhhmkdjajgaaDoor
set_option linter.unusedVariables false
set_option linter.unusedSimpArgs false
open Go.ChangeShapes Go.WideShapes Go.ChangeAt Go.RowKit Go.Maps

theorem eqNilI (a : Option Addr) (m cap : Nat) (w : World) : (binOp .eql 60 (.slice a m cap) (.slice none 0 0)).run Tryd.prog w = .ok (.bool a.isNone) w := by cases a <;> kernel_rfl
set_option maxRecDepth 100000 in
theorem c_iClone {n : Nat} {v : Value} {xs : List Value} (W : World) (h : W.ownsRow 0 3 1 v n xs) (hx : ∀ u ∈ xs, u.oneCell' = true) (hn : n ≤ 1000000) :
    Calls Tryd.prog 36 #[v] W fun e w' => ∃ v', e = .returned v' ∧ w'.ownsRow W.heap.size 3 1 v' n xs ∧ Gr W w' := by
  obtain ⟨i0, hi0, hz0, hz1, hz2⟩ := info_parts (P := Tryd.prog) (e := 3) (z := .int .i64 0) (size := 1) (bytes := 8) (by kernel_rfl)
  have HI := Lib.hid (And.intro hi0 (And.intro hz0 (And.intro hz1 hz2)))
  clear hi0 hz0 hz1 hz2
  rcases h.2 with ⟨rfl, h0⟩ | ⟨g, cap, cur, rfl, hb, hg, hn', hc, hs, ht⟩
  · have hE := fun w => eqNilI none 0 0 w
    subst h0
    have hxs : xs = [] := List.eq_nil_of_length_eq_zero (by have := h.1; omega)
    subst hxs
    clear h
    go_enter Tryd.func36, Tryd.ntmps36
    go_wp2_with fail
    go_ret
    exact ⟨_, rfl, World.ownsRow_nil _ _ _ _, by go_grown⟩
  · have hE := fun w => eqNilI (some ⟨g, 0, none⟩) n cap w
    have O1 : ∀ (w : World), (w.alloc (.cells #[] 3)).ownsRow w.heap.size 3 1 (.slice (some ⟨w.heap.size, 0, none⟩) 0 0) 0 [] := fun w =>
      World.ownsRow_lit (base := w.heap.size) (e := 3) (size := 1) w #[] 0 (Nat.le_refl _) (by decide) (by simp)
    have hl := h.1
    have hcell : ∀ j u, xs[j]? = some u → (W.alloc (.cells #[] 3)).cell? ((⟨g, 0, none⟩ : Addr).add j) = some u := fun j u hu => by
      have hj := (List.getElem?_eq_some_iff.1 hu).1
      rw [Addr.add_lit, Nat.zero_add]
      have := h.cellAt j (by omega)
      exact cell_gr (a := W) (by go_grown) (this.trans hu)
    have HC := Lib.hid hcell
    have HX := Lib.hid (And.intro hl hx)
    have H1 := Lib.hid O1
    clear O1
    clear h ht hs hcell hx
    go_enter Tryd.func36, Tryd.ntmps36
    go_wp2_with (at_builtin; go_loud ((refine wpList_append_own2 _ rfl (.tmp 5) (.tmp 6) 60 rfl W.heap.size 3 i0 (.int .i64 0) 1 8 Tryd.underlying60 HI.out.1 HI.out.2.1 HI.out.2.2.1 HI.out.2.2.2 rfl (by decide) (.slice (some ⟨W.heap.size, 0, none⟩) 0 0) 0 [] rfl (H1.out W) ⟨g, 0, none⟩ n cap xs rfl (HX.out.1) HC.out HX.out.2 (by unfold maxLen; omega) (by omega) (by simp) ?_); intro x2 w2 o2 g2; (have G2 : Gr W w2 := g2.gr (by go_grown) (fun k hk => (World.ownsRow.lt (H1.out W) k hk).1)); (have HO := Lib.hid o2); clear o2))
    go_wp2_with fail
    go_ret
    exact ⟨_, rfl, by simpa using HO.out, G2⟩
theorem eqNilM (b : Nat) (w : World) : (binOp .eql 70 (.map (some b)) (.map none)).run Tryd.prog w = .ok (.bool false) w := by kernel_rfl
theorem run_mClone {P : Program} {w : World} {r : Nat} {es : Array MapEntry} {clock : Nat} (t : TypeId) (hb : w.heap[r]? = some (.map es clock)) :
    (Extern.MapsClone.clone #[.iface t (.map (some r))]).run P w = .ok (.iface t (.map (some w.heap.size))) (w.alloc (.map es clock)) := by
  have e : Extern.MapsClone.clone #[.iface t (.map (some r))] = (getObj r >>= fun o => match o with
      | .map entries clock => (newObj (.map entries clock) >>= fun n => pure (.iface t (.map (some n))))
      | _ => stuck "maps.clone: a map expected") := rfl
  rw [e]
  simp [MapKept.run_getObj_map hb, Result.andThen, go_sem]
set_option maxRecDepth 100000 in
theorem c_mClone {b n : Nat} {D : DataW Value} (W : World) (h : W.ownsMap Tryd.prog 3 heldE b n D) :
    Calls Tryd.prog 37 #[.map (some b)] W fun e w' => e = .returned (.map (some W.heap.size)) ∧ w'.ownsMap Tryd.prog 3 heldE W.heap.size n D ∧ Gr W w' := by
  have hE := eqNilM b
  have hlt := h.lt
  obtain ⟨es, clock, hb, F, hs, hD⟩ := h
  have HD := Lib.hid (And.intro hs hD)
  clear hs hD
  go_enter Tryd.func37, Tryd.ntmps37
  go_wp2_with fail
  rw [@run_callFunc_extern Tryd.prog 45 _ Extern.MapsClone.clone Tryd.func45 (by kernel_rfl) (by kernel_rfl) (by kernel_rfl) (by kernel_rfl), run_mClone _ hb]
  simp only [Result.andThen]
  rw [Oper.upon_value]
  go_wp2_with fail
  rw [show ∀ w xT, (Instr.typeAssert (.iface 70 (.map (some W.heap.size))) xT 70 false).run Tryd.prog w = .ok (.map (some W.heap.size)) w from fun w xT => by simp [Instr.typeAssert, run_underlying Tryd.underlying70, go_sem, Result.andThen]]
  simp only [Result.andThen]
  rw [Oper.upon_value]
  go_wp2_with fail
  go_ret
  exact ⟨rfl, ⟨es, clock, (MapKept.heap_alloc W _).1, F, HD.out.1, HD.out.2⟩, by go_grown⟩
section
variable {p g bm : Nat} {M : Option Nat} {d : Dk}
theorem ov_form {w : World} {b e n : Nat} {ov : Value} {xs : List Value} (h : w.ownsRow b e 1 ov n xs) : ∃ sa scap, ov = .slice sa n scap := by
  rcases h.2 with ⟨e, h0⟩ | ⟨g', cap', cur, e, hb, hh, hn, hc, hs, ht⟩
  · exact ⟨none, 0, by rw [e, h0]⟩
  · exact ⟨_, cap', e⟩
theorem rowOwn_base {w : World} {base base' e n : Nat} {v : Value} {xs : List Value} (h : w.ownsRow base e 1 v n xs) (hb : base' ≤ base) : w.ownsRow base' e 1 v n xs := by
  rcases h with ⟨h1, h2 | ⟨g, cap, cur, e, hg, r⟩⟩
  · exact ⟨h1, .inl h2⟩
  · exact ⟨h1, .inr ⟨g, cap, cur, e, Nat.le_trans hb hg, r⟩⟩
set_option maxHeartbeats 2000000 in
set_option maxRecDepth 100000 in
theorem d_copyW (W : World) (H : DiskS W p g bm M d) :
    Calls Tryd.prog 22 #[.pointer (some ⟨p, 0, none⟩)] W fun e w' => ∃ p' g' bm' M', e = .returned (.pointer (some ⟨p', 0, none⟩)) ∧ (∀ j, dkZ p' g' bm' M' j → W.heap.size ≤ j) ∧ DiskS w' p' g' bm' M' d ∧ Gr W w' ∧ Waits w' (fun j => dkZ p' g' bm' M' j ∨ dkZ p g bm M j) bm' d := by
  have hn1 := H.ok.n1
  have hn2 := H.ok.n2
  have hol := ord_len H.ok
  have A1 := fun w (G : Gr W w) => d_len w (diskS_gr H G)
  obtain ⟨cap, ov, h2, h3, h4, h5, -, -⟩ := diskS_head H
  obtain ⟨sa, scap, rfl⟩ := ov_form h4
  obtain ⟨D, hD, hsz, hW⟩ := H.waits
  have c0 := h2.c0
  have c1 := h2.c1
  have c2 := h2.c2
  have c3 := h2.c3
  have c4 := h2.c4
  have c5 := h2.c5
  have c6 := h2.c6
  have hp := World.block_lt_of_cell? _ _ c0
  have t1 : ((d.n : Int) == 0) = false := by simp; omega
  have t2 : (d.n == 0) = false := by simp; omega
  have A2 : ∀ w, Gr W w → Calls Tryd.prog 31 #[.slice (some ⟨g, 0, none⟩) (d.n * 64) cap] w fun e w' => ∃ g' c', e = .returned (.slice (some ⟨g', 0, none⟩) (d.n * 64) c') ∧ Own w' w.heap.size (.slice (some ⟨g', 0, none⟩) (d.n * 64) c') d.good ∧ Gr w w' := fun w G => by
    refine (c_sClone w (row_gr (row_own h3) G) (by rw [H.ok.len]; omega)).mono ?_
    rintro e w' ⟨ad, c, rfl, o, -, g2⟩
    obtain ⟨q, cq, eq, -, -⟩ := row_form o (by rw [H.ok.len]; omega)
    rw [H.ok.len] at o eq ⊢
    simp only [Value.slice.injEq] at eq
    obtain ⟨rfl, -, rfl⟩ := eq
    exact ⟨q, c, rfl, o, g2⟩
  have A3 : ∀ w, Gr W w → Calls Tryd.prog 36 #[.slice sa d.ord.length scap] w fun e w' => ∃ sa' scap', e = .returned (.slice sa' d.ord.length scap') ∧ w'.ownsRow w.heap.size 3 1 (.slice sa' d.ord.length scap') d.ord.length (d.ord.map fun (k : Nat) => Value.int .i64 (k : Int)) ∧ Gr w w' ∧ Gr w w' := fun w G => by
    refine (c_iClone w (rowOwn_gr h4 G) (fun u hu => by obtain ⟨k, -, rfl⟩ := List.mem_map.1 hu; rfl) (by omega)).mono ?_
    rintro e w' ⟨v', rfl, o, g2⟩
    obtain ⟨sa', scap', rfl⟩ := ov_form o
    exact ⟨sa', scap', rfl, o, g2, g2⟩
  have A4 : ∀ w, Gr W w → Calls Tryd.prog 37 #[.map (some bm)] w fun e w' => e = .returned (.map (some w.heap.size)) ∧ w'.ownsMap Tryd.prog 3 heldE w.heap.size d.ord.length D ∧ Gr w w' := fun w G =>
    c_mClone w (ownsMap_kx (S := fun _ => False) hD (Kx.of_gr G) (fun h => h))
  have HX := Lib.hid (And.intro H.ok (And.intro hsz hW))
  generalize hxs : d.ord.map (fun (k : Nat) => Value.int .i64 (k : Int)) = xs at *
  have HXS := Lib.hid hxs
  obtain ⟨len, hlen⟩ : ∃ len, d.ord.length = len := ⟨_, rfl⟩
  rw [hlen] at hol c2 A3 A4
  have HL := Lib.hid hlen
  have H1 := Lib.hid A1
  have H2 := Lib.hid A2
  have H3 := Lib.hid A3
  have H4 := Lib.hid A4
  clear A1 A2 A3 A4
  clear H h2 h3 h4 h5 hD hsz hW hn1 hn2 hxs hlen
  go_enter Tryd.func22, Tryd.ntmps22
  go_wp2_with fail
  go_at_call 29
  refine ((H1.out _ (by go_grown))).mono ?_
  rintro e w1 ⟨rfl, hw1⟩
  have cw1_0_0 : w1.cell? ⟨p, 0, none⟩ = some (.slice (some ⟨g, 0, none⟩) (d.n * 64) cap) := cell_gr hw1 (by go_simp)
  have cw1_0_1 : w1.cell? ⟨p, 1, none⟩ = some (.map (some bm)) := cell_gr hw1 (by go_simp)
  have cw1_0_2 : w1.cell? ⟨p, 2, none⟩ = some (.slice sa len scap) := cell_gr hw1 (by go_simp)
  have cw1_0_3 : w1.cell? ⟨p, 3, none⟩ = some (.int .i64 d.ops) := cell_gr hw1 (by go_simp)
  have cw1_0_4 : w1.cell? ⟨p, 4, none⟩ = some (.bool d.cut) := cell_gr hw1 (by go_simp)
  have cw1_0_5 : w1.cell? ⟨p, 5, none⟩ = some (.int .i64 d.left) := cell_gr hw1 (by go_simp)
  have cw1_0_6 : w1.cell? ⟨p, 6, none⟩ = some (.bool d.off) := cell_gr hw1 (by go_simp)
  have zw1_0 : p < w1.heap.size := World.block_lt_of_cell? _ _ cw1_0_0
  have gw1 : Gr W w1 := Gr.trans (by go_grown) hw1
  clear hw1
  have s1 := gw1.size
  go_wp2_with fail
  generalize hhw2 : (w1.alloc (.cells #[.slice (some ⟨g, 0, none⟩) (d.n * 64) cap, .map (some bm), .slice sa len scap, .int .i64 d.ops, .bool d.cut, .int .i64 d.left, .bool d.off] 72)) = w2
  have cw2_0_0 : w2.cell? ⟨p, 0, none⟩ = some (.slice (some ⟨g, 0, none⟩) (d.n * 64) cap) := by subst hhw2; go_simp
  have cw2_0_1 : w2.cell? ⟨p, 1, none⟩ = some (.map (some bm)) := by subst hhw2; go_simp
  have cw2_0_2 : w2.cell? ⟨p, 2, none⟩ = some (.slice sa len scap) := by subst hhw2; go_simp
  have cw2_0_3 : w2.cell? ⟨p, 3, none⟩ = some (.int .i64 d.ops) := by subst hhw2; go_simp
  have cw2_0_4 : w2.cell? ⟨p, 4, none⟩ = some (.bool d.cut) := by subst hhw2; go_simp
  have cw2_0_5 : w2.cell? ⟨p, 5, none⟩ = some (.int .i64 d.left) := by subst hhw2; go_simp
  have cw2_0_6 : w2.cell? ⟨p, 6, none⟩ = some (.bool d.off) := by subst hhw2; go_simp
  have zw2_0 : p < w2.heap.size := World.block_lt_of_cell? _ _ cw2_0_0
  have cw2_1_0 : w2.cell? ⟨w1.heap.size, 0, none⟩ = some (.slice (some ⟨g, 0, none⟩) (d.n * 64) cap) := by subst hhw2; go_simp
  have fw2_1_0 : w2.frozen? ⟨w1.heap.size, 0, none⟩ = false := by subst hhw2; go_simp
  have cw2_1_1 : w2.cell? ⟨w1.heap.size, 1, none⟩ = some (.map (some bm)) := by subst hhw2; go_simp
  have fw2_1_1 : w2.frozen? ⟨w1.heap.size, 1, none⟩ = false := by subst hhw2; go_simp
  have cw2_1_2 : w2.cell? ⟨w1.heap.size, 2, none⟩ = some (.slice sa len scap) := by subst hhw2; go_simp
  have fw2_1_2 : w2.frozen? ⟨w1.heap.size, 2, none⟩ = false := by subst hhw2; go_simp
  have cw2_1_3 : w2.cell? ⟨w1.heap.size, 3, none⟩ = some (.int .i64 d.ops) := by subst hhw2; go_simp
  have fw2_1_3 : w2.frozen? ⟨w1.heap.size, 3, none⟩ = false := by subst hhw2; go_simp
  have cw2_1_4 : w2.cell? ⟨w1.heap.size, 4, none⟩ = some (.bool d.cut) := by subst hhw2; go_simp
  have fw2_1_4 : w2.frozen? ⟨w1.heap.size, 4, none⟩ = false := by subst hhw2; go_simp
  have cw2_1_5 : w2.cell? ⟨w1.heap.size, 5, none⟩ = some (.int .i64 d.left) := by subst hhw2; go_simp
  have fw2_1_5 : w2.frozen? ⟨w1.heap.size, 5, none⟩ = false := by subst hhw2; go_simp
  have cw2_1_6 : w2.cell? ⟨w1.heap.size, 6, none⟩ = some (.bool d.off) := by subst hhw2; go_simp
  have fw2_1_6 : w2.frozen? ⟨w1.heap.size, 6, none⟩ = false := by subst hhw2; go_simp
  have zw2_1 : w1.heap.size < w2.heap.size := World.block_lt_of_cell? _ _ cw2_1_0
  have gw2 : Gr W w2 := by subst hhw2; have gg := gw1; have gs := gg.size; go_grown
  clear hhw2 gw1 zw1_0 cw1_0_0 cw1_0_1 cw1_0_2 cw1_0_3 cw1_0_4 cw1_0_5 cw1_0_6
  have s2 := zw2_1
  go_wp2_with fail
  try simp only [List.append]
  refine Od.wp_region_ordT 10 [(0, false), (1, false), (2, false), (3, false), (5, false), (6, false), (7, false), (8, false), (4, true), (9, true)] (by kernel_rfl) (by kernel_rfl) ?_
  intro w3 hw3 KQ hKQ
  have cw3_0_0 : w3.cell? ⟨p, 0, none⟩ = some (.slice (some ⟨g, 0, none⟩) (d.n * 64) cap) := cell_gr hw3 (by go_simp)
  have cw3_0_1 : w3.cell? ⟨p, 1, none⟩ = some (.map (some bm)) := cell_gr hw3 (by go_simp)
  have cw3_0_2 : w3.cell? ⟨p, 2, none⟩ = some (.slice sa len scap) := cell_gr hw3 (by go_simp)
  have cw3_0_3 : w3.cell? ⟨p, 3, none⟩ = some (.int .i64 d.ops) := cell_gr hw3 (by go_simp)
  have cw3_0_4 : w3.cell? ⟨p, 4, none⟩ = some (.bool d.cut) := cell_gr hw3 (by go_simp)
  have cw3_0_5 : w3.cell? ⟨p, 5, none⟩ = some (.int .i64 d.left) := cell_gr hw3 (by go_simp)
  have cw3_0_6 : w3.cell? ⟨p, 6, none⟩ = some (.bool d.off) := cell_gr hw3 (by go_simp)
  have zw3_0 : p < w3.heap.size := World.block_lt_of_cell? _ _ cw3_0_0
  have cw3_1_0 : w3.cell? ⟨w1.heap.size, 0, none⟩ = some (.slice (some ⟨g, 0, none⟩) (d.n * 64) cap) := cell_gr hw3 (by go_simp)
  have fw3_1_0 : w3.frozen? ⟨w1.heap.size, 0, none⟩ = false := frozen_gr (v := .slice (some ⟨g, 0, none⟩) (d.n * 64) cap) hw3 (by go_simp) (by go_simp)
  have cw3_1_1 : w3.cell? ⟨w1.heap.size, 1, none⟩ = some (.map (some bm)) := cell_gr hw3 (by go_simp)
  have fw3_1_1 : w3.frozen? ⟨w1.heap.size, 1, none⟩ = false := frozen_gr (v := .map (some bm)) hw3 (by go_simp) (by go_simp)
  have cw3_1_2 : w3.cell? ⟨w1.heap.size, 2, none⟩ = some (.slice sa len scap) := cell_gr hw3 (by go_simp)
  have fw3_1_2 : w3.frozen? ⟨w1.heap.size, 2, none⟩ = false := frozen_gr (v := .slice sa len scap) hw3 (by go_simp) (by go_simp)
  have cw3_1_3 : w3.cell? ⟨w1.heap.size, 3, none⟩ = some (.int .i64 d.ops) := cell_gr hw3 (by go_simp)
  have fw3_1_3 : w3.frozen? ⟨w1.heap.size, 3, none⟩ = false := frozen_gr (v := .int .i64 d.ops) hw3 (by go_simp) (by go_simp)
  have cw3_1_4 : w3.cell? ⟨w1.heap.size, 4, none⟩ = some (.bool d.cut) := cell_gr hw3 (by go_simp)
  have fw3_1_4 : w3.frozen? ⟨w1.heap.size, 4, none⟩ = false := frozen_gr (v := .bool d.cut) hw3 (by go_simp) (by go_simp)
  have cw3_1_5 : w3.cell? ⟨w1.heap.size, 5, none⟩ = some (.int .i64 d.left) := cell_gr hw3 (by go_simp)
  have fw3_1_5 : w3.frozen? ⟨w1.heap.size, 5, none⟩ = false := frozen_gr (v := .int .i64 d.left) hw3 (by go_simp) (by go_simp)
  have cw3_1_6 : w3.cell? ⟨w1.heap.size, 6, none⟩ = some (.bool d.off) := cell_gr hw3 (by go_simp)
  have fw3_1_6 : w3.frozen? ⟨w1.heap.size, 6, none⟩ = false := frozen_gr (v := .bool d.off) hw3 (by go_simp) (by go_simp)
  have zw3_1 : w1.heap.size < w3.heap.size := World.block_lt_of_cell? _ _ cw3_1_0
  have gw3 : Gr W w3 := Gr.trans (by have gg := gw2; have gs := gg.size; go_grown) hw3
  clear gw2 zw2_0 cw2_0_0 cw2_0_1 cw2_0_2 cw2_0_3 cw2_0_4 cw2_0_5 cw2_0_6 zw2_1 cw2_1_0 fw2_1_0 cw2_1_1 fw2_1_1 cw2_1_2 fw2_1_2 cw2_1_3 fw2_1_3 cw2_1_4 fw2_1_4 cw2_1_5 fw2_1_5 cw2_1_6 fw2_1_6
  clear hw3
  repeat (first | (refine Od.wpO_skip (by simp only [List.getElem?_toArray, List.getElem?_cons_succ, List.getElem?_cons_zero] <;> rfl) rfl ?_; simp only [Act.put, List.setIfInBounds_toArray, List.set_cons_zero, List.set_cons_succ]) | (refine Od.wpO_pure (by simp only [List.getElem?_toArray, List.getElem?_cons_succ, List.getElem?_cons_zero] <;> rfl) rfl ?_; apply Exists.intro; refine ⟨?_, ?_⟩; (· intro wx gx; obtain ⟨mx, rfl⟩ := spread_of_gr gx; clear gx; all_goals (apply Od.pAt_of_quiet; intro K hK; go_big_quiet_op; first | exact hK _ rfl | (apply Exists.intro; refine ⟨fun _ => ?_, ?_⟩; (· fail); exact hK _ rfl))); try simp only [Act.put, List.setIfInBounds_toArray, List.set_cons_zero, List.set_cons_succ]))
  have s3 := zw3_1
  refine Od.wpO_call (by simp only [List.getElem?_toArray, List.getElem?_cons_succ, List.getElem?_cons_zero] <;> rfl) rfl ?_
  intro QS hQS
  go_wp2_with fail
  go_at_call 31
  (with_reducible refine ((H2.out _ gw3)).mono ?_)
  rintro e w4 ⟨g4, cp4, rfl, o4, hw4⟩
  go_wp2_with fail
  apply Exists.intro
  refine ⟨?_, hw4, ?_⟩
  · simp only [Act.put, List.setIfInBounds_toArray, List.set_cons_zero, List.set_cons_succ]; rfl
  have cw4_0_0 : w4.cell? ⟨p, 0, none⟩ = some (.slice (some ⟨g, 0, none⟩) (d.n * 64) cap) := cell_gr hw4 (by go_simp)
  have cw4_0_1 : w4.cell? ⟨p, 1, none⟩ = some (.map (some bm)) := cell_gr hw4 (by go_simp)
  have cw4_0_2 : w4.cell? ⟨p, 2, none⟩ = some (.slice sa len scap) := cell_gr hw4 (by go_simp)
  have cw4_0_3 : w4.cell? ⟨p, 3, none⟩ = some (.int .i64 d.ops) := cell_gr hw4 (by go_simp)
  have cw4_0_4 : w4.cell? ⟨p, 4, none⟩ = some (.bool d.cut) := cell_gr hw4 (by go_simp)
  have cw4_0_5 : w4.cell? ⟨p, 5, none⟩ = some (.int .i64 d.left) := cell_gr hw4 (by go_simp)
  have cw4_0_6 : w4.cell? ⟨p, 6, none⟩ = some (.bool d.off) := cell_gr hw4 (by go_simp)
  have zw4_0 : p < w4.heap.size := World.block_lt_of_cell? _ _ cw4_0_0
  have cw4_1_0 : w4.cell? ⟨w1.heap.size, 0, none⟩ = some (.slice (some ⟨g, 0, none⟩) (d.n * 64) cap) := cell_gr hw4 (by go_simp)
  have fw4_1_0 : w4.frozen? ⟨w1.heap.size, 0, none⟩ = false := frozen_gr (v := .slice (some ⟨g, 0, none⟩) (d.n * 64) cap) hw4 (by go_simp) (by go_simp)
  have cw4_1_1 : w4.cell? ⟨w1.heap.size, 1, none⟩ = some (.map (some bm)) := cell_gr hw4 (by go_simp)
  have fw4_1_1 : w4.frozen? ⟨w1.heap.size, 1, none⟩ = false := frozen_gr (v := .map (some bm)) hw4 (by go_simp) (by go_simp)
  have cw4_1_2 : w4.cell? ⟨w1.heap.size, 2, none⟩ = some (.slice sa len scap) := cell_gr hw4 (by go_simp)
  have fw4_1_2 : w4.frozen? ⟨w1.heap.size, 2, none⟩ = false := frozen_gr (v := .slice sa len scap) hw4 (by go_simp) (by go_simp)
  have cw4_1_3 : w4.cell? ⟨w1.heap.size, 3, none⟩ = some (.int .i64 d.ops) := cell_gr hw4 (by go_simp)
  have fw4_1_3 : w4.frozen? ⟨w1.heap.size, 3, none⟩ = false := frozen_gr (v := .int .i64 d.ops) hw4 (by go_simp) (by go_simp)
  have cw4_1_4 : w4.cell? ⟨w1.heap.size, 4, none⟩ = some (.bool d.cut) := cell_gr hw4 (by go_simp)
  have fw4_1_4 : w4.frozen? ⟨w1.heap.size, 4, none⟩ = false := frozen_gr (v := .bool d.cut) hw4 (by go_simp) (by go_simp)
  have cw4_1_5 : w4.cell? ⟨w1.heap.size, 5, none⟩ = some (.int .i64 d.left) := cell_gr hw4 (by go_simp)
  have fw4_1_5 : w4.frozen? ⟨w1.heap.size, 5, none⟩ = false := frozen_gr (v := .int .i64 d.left) hw4 (by go_simp) (by go_simp)
  have cw4_1_6 : w4.cell? ⟨w1.heap.size, 6, none⟩ = some (.bool d.off) := cell_gr hw4 (by go_simp)
  have fw4_1_6 : w4.frozen? ⟨w1.heap.size, 6, none⟩ = false := frozen_gr (v := .bool d.off) hw4 (by go_simp) (by go_simp)
  have zw4_1 : w1.heap.size < w4.heap.size := World.block_lt_of_cell? _ _ cw4_1_0
  have gw4 : Gr W w4 := Gr.trans (by have gg := gw3; have gs := gg.size; go_grown) hw4
  clear gw3 zw3_0 cw3_0_0 cw3_0_1 cw3_0_2 cw3_0_3 cw3_0_4 cw3_0_5 cw3_0_6 zw3_1 cw3_1_0 fw3_1_0 cw3_1_1 fw3_1_1 cw3_1_2 fw3_1_2 cw3_1_3 fw3_1_3 cw3_1_4 fw3_1_4 cw3_1_5 fw3_1_5 cw3_1_6 fw3_1_6
  clear hw4
  try simp only [Act.put, List.setIfInBounds_toArray, List.set_cons_zero, List.set_cons_succ]
  repeat (first | (refine Od.wpO_skip (by simp only [List.getElem?_toArray, List.getElem?_cons_succ, List.getElem?_cons_zero] <;> rfl) rfl ?_; simp only [Act.put, List.setIfInBounds_toArray, List.set_cons_zero, List.set_cons_succ]) | (refine Od.wpO_pure (by simp only [List.getElem?_toArray, List.getElem?_cons_succ, List.getElem?_cons_zero] <;> rfl) rfl ?_; apply Exists.intro; refine ⟨?_, ?_⟩; (· intro wx gx; obtain ⟨mx, rfl⟩ := spread_of_gr gx; clear gx; all_goals (apply Od.pAt_of_quiet; intro K hK; go_big_quiet_op; first | exact hK _ rfl | (apply Exists.intro; refine ⟨fun _ => ?_, ?_⟩; (· fail); exact hK _ rfl))); try simp only [Act.put, List.setIfInBounds_toArray, List.set_cons_zero, List.set_cons_succ]))
  refine Od.wpO_call (by simp only [List.getElem?_toArray, List.getElem?_cons_succ, List.getElem?_cons_zero] <;> rfl) rfl ?_
  intro QS hQS
  go_wp2_with fail
  go_at_call 36
  (with_reducible refine ((H3.out _ gw4)).mono ?_)
  rintro e w5 ⟨sa5, cp5, rfl, o5, k5, hw5⟩
  go_wp2_with fail
  apply Exists.intro
  refine ⟨?_, hw5, ?_⟩
  · simp only [Act.put, List.setIfInBounds_toArray, List.set_cons_zero, List.set_cons_succ]; rfl
  have cw5_0_0 : w5.cell? ⟨p, 0, none⟩ = some (.slice (some ⟨g, 0, none⟩) (d.n * 64) cap) := cell_gr hw5 (by go_simp)
  have cw5_0_1 : w5.cell? ⟨p, 1, none⟩ = some (.map (some bm)) := cell_gr hw5 (by go_simp)
  have cw5_0_2 : w5.cell? ⟨p, 2, none⟩ = some (.slice sa len scap) := cell_gr hw5 (by go_simp)
  have cw5_0_3 : w5.cell? ⟨p, 3, none⟩ = some (.int .i64 d.ops) := cell_gr hw5 (by go_simp)
  have cw5_0_4 : w5.cell? ⟨p, 4, none⟩ = some (.bool d.cut) := cell_gr hw5 (by go_simp)
  have cw5_0_5 : w5.cell? ⟨p, 5, none⟩ = some (.int .i64 d.left) := cell_gr hw5 (by go_simp)
  have cw5_0_6 : w5.cell? ⟨p, 6, none⟩ = some (.bool d.off) := cell_gr hw5 (by go_simp)
  have zw5_0 : p < w5.heap.size := World.block_lt_of_cell? _ _ cw5_0_0
  have cw5_1_0 : w5.cell? ⟨w1.heap.size, 0, none⟩ = some (.slice (some ⟨g, 0, none⟩) (d.n * 64) cap) := cell_gr hw5 (by go_simp)
  have fw5_1_0 : w5.frozen? ⟨w1.heap.size, 0, none⟩ = false := frozen_gr (v := .slice (some ⟨g, 0, none⟩) (d.n * 64) cap) hw5 (by go_simp) (by go_simp)
  have cw5_1_1 : w5.cell? ⟨w1.heap.size, 1, none⟩ = some (.map (some bm)) := cell_gr hw5 (by go_simp)
  have fw5_1_1 : w5.frozen? ⟨w1.heap.size, 1, none⟩ = false := frozen_gr (v := .map (some bm)) hw5 (by go_simp) (by go_simp)
  have cw5_1_2 : w5.cell? ⟨w1.heap.size, 2, none⟩ = some (.slice sa len scap) := cell_gr hw5 (by go_simp)
  have fw5_1_2 : w5.frozen? ⟨w1.heap.size, 2, none⟩ = false := frozen_gr (v := .slice sa len scap) hw5 (by go_simp) (by go_simp)
  have cw5_1_3 : w5.cell? ⟨w1.heap.size, 3, none⟩ = some (.int .i64 d.ops) := cell_gr hw5 (by go_simp)
  have fw5_1_3 : w5.frozen? ⟨w1.heap.size, 3, none⟩ = false := frozen_gr (v := .int .i64 d.ops) hw5 (by go_simp) (by go_simp)
  have cw5_1_4 : w5.cell? ⟨w1.heap.size, 4, none⟩ = some (.bool d.cut) := cell_gr hw5 (by go_simp)
  have fw5_1_4 : w5.frozen? ⟨w1.heap.size, 4, none⟩ = false := frozen_gr (v := .bool d.cut) hw5 (by go_simp) (by go_simp)
  have cw5_1_5 : w5.cell? ⟨w1.heap.size, 5, none⟩ = some (.int .i64 d.left) := cell_gr hw5 (by go_simp)
  have fw5_1_5 : w5.frozen? ⟨w1.heap.size, 5, none⟩ = false := frozen_gr (v := .int .i64 d.left) hw5 (by go_simp) (by go_simp)
  have cw5_1_6 : w5.cell? ⟨w1.heap.size, 6, none⟩ = some (.bool d.off) := cell_gr hw5 (by go_simp)
  have fw5_1_6 : w5.frozen? ⟨w1.heap.size, 6, none⟩ = false := frozen_gr (v := .bool d.off) hw5 (by go_simp) (by go_simp)
  have zw5_1 : w1.heap.size < w5.heap.size := World.block_lt_of_cell? _ _ cw5_1_0
  have gw5 : Gr W w5 := Gr.trans (by have gg := gw4; have gs := gg.size; go_grown) hw5
  clear gw4 zw4_0 cw4_0_0 cw4_0_1 cw4_0_2 cw4_0_3 cw4_0_4 cw4_0_5 cw4_0_6 zw4_1 cw4_1_0 fw4_1_0 cw4_1_1 fw4_1_1 cw4_1_2 fw4_1_2 cw4_1_3 fw4_1_3 cw4_1_4 fw4_1_4 cw4_1_5 fw4_1_5 cw4_1_6 fw4_1_6
  clear hw5
  try simp only [Act.put, List.setIfInBounds_toArray, List.set_cons_zero, List.set_cons_succ]
  repeat (first | (refine Od.wpO_skip (by simp only [List.getElem?_toArray, List.getElem?_cons_succ, List.getElem?_cons_zero] <;> rfl) rfl ?_; simp only [Act.put, List.setIfInBounds_toArray, List.set_cons_zero, List.set_cons_succ]) | (refine Od.wpO_pure (by simp only [List.getElem?_toArray, List.getElem?_cons_succ, List.getElem?_cons_zero] <;> rfl) rfl ?_; apply Exists.intro; refine ⟨?_, ?_⟩; (· intro wx gx; obtain ⟨mx, rfl⟩ := spread_of_gr gx; clear gx; all_goals (apply Od.pAt_of_quiet; intro K hK; go_big_quiet_op; first | exact hK _ rfl | (apply Exists.intro; refine ⟨fun _ => ?_, ?_⟩; (· fail); exact hK _ rfl))); try simp only [Act.put, List.setIfInBounds_toArray, List.set_cons_zero, List.set_cons_succ]))
  refine Od.wpO_nil (hKQ _ _ ?_)
  clear hKQ KQ
  simp only [List.drop_succ_cons, List.drop_zero]
  go_wp2_with fail
  have o4' := rowOwn_gr o4 k5
  have l4 := (World.ownsRow.lt o4 g4 rfl)
  have l5 := World.ownsRow.lt o5
  have s5 := k5.size
  have HO := Lib.hid (And.intro o4' (And.intro o5 l5))
  have l41 := l4.1
  have l42 := l4.2
  clear o4 o4' o5 k5 l5 l4
  have hsz : ((w5.setCell ⟨w1.heap.size, 0, none⟩ (.slice (some ⟨g4, 0, none⟩) (d.n * 64) cp4)).setCell ⟨w1.heap.size, 2, none⟩ (.slice sa5 len cp5)).heap.size = w5.heap.size := by simp
  have K5 : Kx (fun k => k = w1.heap.size) w5 ((w5.setCell ⟨w1.heap.size, 0, none⟩ (.slice (some ⟨g4, 0, none⟩) (d.n * 64) cp4)).setCell ⟨w1.heap.size, 2, none⟩ (.slice sa5 len cp5)) := ((Kx.refl (S := fun k => k = w1.heap.size) w5).setCell (p := ⟨w1.heap.size, 0, none⟩) rfl _).setCell (p := ⟨w1.heap.size, 2, none⟩) rfl _
  have HK5 := Lib.hid (And.intro K5 hsz)
  clear K5 hsz
  generalize hhw6 : ((w5.setCell ⟨w1.heap.size, 0, none⟩ (.slice (some ⟨g4, 0, none⟩) (d.n * 64) cp4)).setCell ⟨w1.heap.size, 2, none⟩ (.slice sa5 len cp5)) = w6 at HK5 ⊢
  have cw6_0_0 : w6.cell? ⟨p, 0, none⟩ = some (.slice (some ⟨g, 0, none⟩) (d.n * 64) cap) := by subst hhw6; go_simp
  have cw6_0_1 : w6.cell? ⟨p, 1, none⟩ = some (.map (some bm)) := by subst hhw6; go_simp
  have cw6_0_2 : w6.cell? ⟨p, 2, none⟩ = some (.slice sa len scap) := by subst hhw6; go_simp
  have cw6_0_3 : w6.cell? ⟨p, 3, none⟩ = some (.int .i64 d.ops) := by subst hhw6; go_simp
  have cw6_0_4 : w6.cell? ⟨p, 4, none⟩ = some (.bool d.cut) := by subst hhw6; go_simp
  have cw6_0_5 : w6.cell? ⟨p, 5, none⟩ = some (.int .i64 d.left) := by subst hhw6; go_simp
  have cw6_0_6 : w6.cell? ⟨p, 6, none⟩ = some (.bool d.off) := by subst hhw6; go_simp
  have zw6_0 : p < w6.heap.size := World.block_lt_of_cell? _ _ cw6_0_0
  have cw6_1_0 : w6.cell? ⟨w1.heap.size, 0, none⟩ = some (.slice (some ⟨g4, 0, none⟩) (d.n * 64) cp4) := by subst hhw6; go_simp
  have fw6_1_0 : w6.frozen? ⟨w1.heap.size, 0, none⟩ = false := by subst hhw6; go_simp
  have cw6_1_1 : w6.cell? ⟨w1.heap.size, 1, none⟩ = some (.map (some bm)) := by subst hhw6; go_simp
  have fw6_1_1 : w6.frozen? ⟨w1.heap.size, 1, none⟩ = false := by subst hhw6; go_simp
  have cw6_1_2 : w6.cell? ⟨w1.heap.size, 2, none⟩ = some (.slice sa5 len cp5) := by subst hhw6; go_simp
  have fw6_1_2 : w6.frozen? ⟨w1.heap.size, 2, none⟩ = false := by subst hhw6; go_simp
  have cw6_1_3 : w6.cell? ⟨w1.heap.size, 3, none⟩ = some (.int .i64 d.ops) := by subst hhw6; go_simp
  have fw6_1_3 : w6.frozen? ⟨w1.heap.size, 3, none⟩ = false := by subst hhw6; go_simp
  have cw6_1_4 : w6.cell? ⟨w1.heap.size, 4, none⟩ = some (.bool d.cut) := by subst hhw6; go_simp
  have fw6_1_4 : w6.frozen? ⟨w1.heap.size, 4, none⟩ = false := by subst hhw6; go_simp
  have cw6_1_5 : w6.cell? ⟨w1.heap.size, 5, none⟩ = some (.int .i64 d.left) := by subst hhw6; go_simp
  have fw6_1_5 : w6.frozen? ⟨w1.heap.size, 5, none⟩ = false := by subst hhw6; go_simp
  have cw6_1_6 : w6.cell? ⟨w1.heap.size, 6, none⟩ = some (.bool d.off) := by subst hhw6; go_simp
  have fw6_1_6 : w6.frozen? ⟨w1.heap.size, 6, none⟩ = false := by subst hhw6; go_simp
  have zw6_1 : w1.heap.size < w6.heap.size := World.block_lt_of_cell? _ _ cw6_1_0
  have gw6 : Gr W w6 := by subst hhw6; have gg := gw5; have gs := gg.size; go_grown
  clear hhw6 gw5 zw5_0 cw5_0_0 cw5_0_1 cw5_0_2 cw5_0_3 cw5_0_4 cw5_0_5 cw5_0_6 zw5_1 cw5_1_0 fw5_1_0 cw5_1_1 fw5_1_1 cw5_1_2 fw5_1_2 cw5_1_3 fw5_1_3 cw5_1_4 fw5_1_4 cw5_1_5 fw5_1_5 cw5_1_6 fw5_1_6
  go_at_call 37
  refine (H4.out _ gw6).mono ?_
  rintro e w7 ⟨rfl, m7, g7⟩
  have G7 : Gr W w7 := Gr.trans gw6 g7
  have HM := Lib.hid m7
  have s7 := m7.lt
  have k70 := cell_gr g7 cw6_1_0
  have k71 := cell_gr g7 cw6_1_1
  have k72 := cell_gr g7 cw6_1_2
  have k73 := cell_gr g7 cw6_1_3
  have k74 := cell_gr g7 cw6_1_4
  have k75 := cell_gr g7 cw6_1_5
  have k76 := cell_gr g7 cw6_1_6
  have f70 := frozen_gr g7 cw6_1_0 fw6_1_0
  have f71 := frozen_gr g7 cw6_1_1 fw6_1_1
  have f72 := frozen_gr g7 cw6_1_2 fw6_1_2
  have f73 := frozen_gr g7 cw6_1_3 fw6_1_3
  have f74 := frozen_gr g7 cw6_1_4 fw6_1_4
  have f75 := frozen_gr g7 cw6_1_5 fw6_1_5
  have f76 := frozen_gr g7 cw6_1_6 fw6_1_6
  have HG7 := Lib.hid g7
  have HG6 := Lib.hid gw6
  clear gw6 g7 m7
  go_wp2_with fail
  go_ret
  obtain ⟨o4, o5, l5⟩ := HO.out
  have s6 := HK5.out.2
  obtain ⟨ok, hsz, hW⟩ := HX.out
  have K7 : Kx (fun k => k = w1.heap.size) w5 (w7.setCell ⟨w1.heap.size, 1, none⟩ (.map (some w6.heap.size))) := (HK5.out.1.trans (Kx.of_gr HG7.out)).setCell (p := ⟨w1.heap.size, 1, none⟩) rfl _
  have G8 : Gr W (w7.setCell ⟨w1.heap.size, 1, none⟩ (.map (some w6.heap.size))) := Below.setCell G7 s1 _
  have hnew : ∀ j, dkZ w1.heap.size g4 w6.heap.size (Value.slice sa5 len cp5).ownBlock j → W.heap.size ≤ j := fun j hj => by
    rcases hj with rfl | rfl | rfl | hj
    · exact s1
    · omega
    · omega
    · have := (l5 j hj).1; omega
  have hWt : Waits (w7.setCell ⟨w1.heap.size, 1, none⟩ (.map (some w6.heap.size))) (fun j => dkZ w1.heap.size g4 w6.heap.size (Value.slice sa5 len cp5).ownBlock j ∨ dkZ p g bm M j) w6.heap.size d := by
    refine ⟨D, ownsMap_kx (S := fun k => k = w1.heap.size) (by rw [HL.out]; exact HM.out) ((Kx.refl (S := fun k => k = w1.heap.size) w7).setCell (p := ⟨w1.heap.size, 1, none⟩) rfl _) (fun e => by omega), hsz, fun k hk => ⟨(hW k hk).1, fun hin => ?_⟩⟩
    obtain ⟨e1, v, e2, e3⟩ := (hW k hk).2 hin
    exact ⟨e1, v, e2, rowOff_gr (rowOff_mono e3 (fun j hj => by
      rcases hj with hj | hj
      · exact Or.inr (hnew j hj)
      · exact Or.inl hj)) G8⟩
  refine ⟨w1.heap.size, g4, w6.heap.size, (Value.slice sa5 len cp5).ownBlock, rfl, hnew, ⟨ok, ⟨cp4, .slice sa5 len cp5, ⟨by go_simp, by go_simp, by go_simp, by go_simp, by go_simp, by go_simp, by go_simp, by go_simp, by go_simp, by go_simp, by go_simp, by go_simp, by go_simp⟩, rowOwn_kxS (rowOwn_base o4 (Nat.zero_le _)) K7 (fun k hk e => ?_), rowOwn_kxS (rowOwn_base (by rw [HL.out, HXS.out]; exact o5) (Nat.zero_le _)) K7 (fun k hk e => ?_), rfl⟩, waits_turn (S := fun _ => False) hWt (Kx.refl _) (fun h => h) (fun k h => h.elim) (fun k hk => Or.inl (Or.inl hk)), ?_⟩, G8, hWt⟩
  · obtain rfl : g4 = k := by simpa [Value.ownBlock] using hk
    omega
  · have := (l5 k hk).1; omega
  · refine ⟨by omega, by omega, by omega, fun e => ?_, fun e => ?_, fun e => ?_⟩
    · have := (l5 _ e).1; omega
    · have := (l5 _ e).1; omega
    · have := (l5 _ e).2; omega
end
end Go.Proofs.YtkbdhhmkdjajgaaDoor
