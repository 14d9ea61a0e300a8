/- model: a copy of a map; Get, ids, Items of a map of one object -/
import Derived.Test.YtenngnlphecdeaaGreatDoorWe
namespace Go.Proofs.YtenngnlphecdeaaGreatDoor
set_option linter.unusedVariables false
set_option linter.unusedSimpArgs false
open Go.ChangeShapes Go.WideShapes Go.ChangeAt Go.RowKit Go.Maps Go.Sort Go.Shelf

theorem eqNilO (a : Nat) (w : World) : (binOp .eql 46 (.map (some a)) (.map none)).run Tryz.prog w = .ok (.bool false) w := by kernel_rfl
theorem run_oClone {P : Program} {w : World} {r : Nat} {es : Array MapEntry} {clock : Nat} (t : TypeId) (hb : w.heap[r]? = some (.map es clock)) :
    (Extern.MapsClone.clone #[.iface t (.map (some r))]).run P w = .ok (.iface t (.map (some w.heap.size))) (w.alloc (.map es clock)) := by
  have e : Extern.MapsClone.clone #[.iface t (.map (some r))] = (getObj r >>= fun o => match o with
      | .map entries clock => (newObj (.map entries clock) >>= fun n => pure (.iface t (.map (some n))))
      | _ => stuck "maps.clone: a map expected") := rfl
  rw [e]
  simp [MapKept.run_getObj_map hb, Result.andThen, go_sem]
set_option maxRecDepth 100000 in
/-- A map of objects is copied. -/
theorem c_oClone {b n : Nat} {D : DataW Value} (W : World) (h : W.ownsMap Tryz.prog 3 heldE b n D) :
    Calls Tryz.prog 18 #[.map (some b)] W fun e w' => e = .returned (.map (some W.heap.size)) ∧ w'.ownsMap Tryz.prog 3 heldE W.heap.size n D ∧ Gr W w' := by
  have hE := eqNilO b
  have hlt := h.lt
  obtain ⟨es, clock, hb, F, hs, hD⟩ := h
  have HD := Lib.hid (And.intro hs hD)
  clear hs hD
  go_enter Tryz.func18, Tryz.ntmps18
  go_wp2_with fail
  rw [@run_callFunc_extern Tryz.prog 25 _ Extern.MapsClone.clone Tryz.func25 (by kernel_rfl) (by kernel_rfl) (by kernel_rfl) (by kernel_rfl), run_oClone _ hb]
  simp only [Result.andThen]
  rw [Oper.upon_value]
  go_wp2_with fail
  rw [show ∀ w xT, (Instr.typeAssert (.iface 46 (.map (some W.heap.size))) xT 46 false).run Tryz.prog w = .ok (.map (some W.heap.size)) w from fun w xT => by simp [Instr.typeAssert, run_underlying Tryz.underlying46, go_sem, Result.andThen]]
  simp only [Result.andThen]
  rw [Oper.upon_value]
  go_wp2_with fail
  go_ret
  exact ⟨rfl, ⟨es, clock, (MapKept.heap_alloc W _).1, F, HD.out.1, HD.out.2⟩, by go_grown⟩
theorem md_copy {Q m n : Nat} {D : DataW Value} (W : World) (c0 : W.cell? ⟨Q, 0, none⟩ = some (.map (some m))) (hm : W.ownsMap Tryz.prog 3 heldE m n D) : Calls Tryz.prog 8 #[.pointer (some ⟨Q, 0, none⟩)] W fun e w' => ∃ C k, e = .returned (.pointer (some ⟨C, 0, none⟩)) ∧ W.heap.size ≤ C ∧ W.heap.size ≤ k ∧ w'.cell? ⟨C, 0, none⟩ = some (.map (some k)) ∧ w'.ownsMap Tryz.prog 3 heldE k n D ∧ Gr W w' := by
  have z := World.block_lt_of_cell? _ _ c0
  have AC := Lib.hid (fun w (g : Gr W w) => c_oClone w (ownsMap_kx hm (Kx.of_gr (S := fun _ => False) g) (fun h => h)))
  clear hm
  go_enter Tryz.func8, Tryz.ntmps8
  go_wp2_with fail
  go_at_call 18
  refine (AC.out _ (by go_grown)).mono ?_
  rintro e w1 ⟨rfl, m1, g1⟩
  have HM := Lib.hid (And.intro m1 g1)
  clear m1 g1
  go_wp2_with fail
  go_ret
  have s1 := HM.out.2.size
  exact ⟨_, _, rfl, s1, Nat.le_refl _, by go_simp, HM.out.1.alloc _, Gr.trans HM.out.2 (by go_grown)⟩
theorem res_objb {F : Func} {p q : Tmp} {tmps : Array Value} {w : World} {N : Nat} {k : Int} {u : Value} {b : Bool} (hF : F.results = #[.cell p 27, .tmp q]) (h2 : tmps.getD p undef = .pointer (some ⟨N, 0, none⟩)) (h3 : tmps.getD q undef = .bool b) (c0 : w.cell? ⟨N, 0, none⟩ = some (.int .i64 k)) (c1 : w.cell? ⟨N, 1, none⟩ = some u) :
    (results F tmps).run Tryz.prog w = .ok (.tuple #[.agg #[.int .i64 k, u], .bool b]) w := by
  have g2 : tmps[p]?.getD undef = .pointer (some ⟨N, 0, none⟩) := by simpa using h2
  have g3 : tmps[q]?.getD undef = .bool b := by simpa using h3
  simp [results, hF, go_sem, g2, g3, c0, c1]
set_option maxHeartbeats 1000000 in
set_option maxRecDepth 100000 in
theorem md_get_hit {Q m N id n c B : Nat} {D : DataW Value} {k : Int} {X Y : Nat → Int} (hid : id < 1000000) (hn : 0 < n) (hn2 : n ≤ 1000) (W : World) (c0 : W.cell? ⟨Q, 0, none⟩ = some (.map (some m))) (hm : W.ownsMap Tryz.prog 3 heldE m N D) (hh : Maps.has D (ik id) = true) (hv : ∀ z, D.atKey (ik id) z = .held (.agg #[.int .i64 k, .slice (some ⟨B, 0, none⟩) n c])) (hp : Pts W (.slice (some ⟨B, 0, none⟩) n c) n X Y) :
    Calls Tryz.prog 9 #[.pointer (some ⟨Q, 0, none⟩), .int .i64 (id : Nat)] W fun e w' => ∃ B' c', e = .returned (.tuple #[.agg #[.int .i64 k, .slice (some ⟨B', 0, none⟩) n c'], .bool true]) ∧ (Pts w' (.slice (some ⟨B', 0, none⟩) n c') n X Y ∧ Fr2 w' B') ∧ W.heap.size ≤ B' ∧ Gr W w' := by
  have zQ := World.block_lt_of_cell? _ _ c0
  have AH := Lib.hid (fun w (g : Gr W w) => md_has_hit hid w (cell_gr g c0) (ownsMap_kx hm (Kx.of_gr (S := fun _ => False) g) (fun h => h)) hh hv)
  have AC := Lib.hid (fun w (g : Gr W w) => c_rClone (k := k) hn hn2 w (pts_gr hp g))
  have HM := Lib.hid (And.intro hm hv)
  clear hm hh hv hp
  go_enter Tryz.func9, Tryz.ntmps9
  go_wp2_with fail
  go_at_call 16
  (with_reducible refine ((AH.out _ (by go_grown))).mono ?_)
  rintro e w1 ⟨rfl, hw1⟩
  have cw1_0_0 : w1.cell? ⟨W.heap.size, 0, none⟩ = some (.int .i64 0) := cell_gr hw1 (by go_simp)
  have fw1_0_0 : w1.frozen? ⟨W.heap.size, 0, none⟩ = false := frozen_gr (v := .int .i64 0) hw1 (by go_simp) (by go_simp)
  have cw1_0_1 : w1.cell? ⟨W.heap.size, 1, none⟩ = some (.slice none 0 0) := cell_gr hw1 (by go_simp)
  have fw1_0_1 : w1.frozen? ⟨W.heap.size, 1, none⟩ = false := frozen_gr (v := .slice none 0 0) hw1 (by go_simp) (by go_simp)
  have zw1_0 : W.heap.size < w1.heap.size := World.block_lt_of_cell? _ _ cw1_0_0
  have cw1_1_0 : w1.cell? ⟨Q, 0, none⟩ = some (.map (some m)) := cell_gr hw1 (by go_simp)
  have zw1_1 : Q < w1.heap.size := World.block_lt_of_cell? _ _ cw1_1_0
  have gw1 : Gr W w1 := Gr.trans (by go_grown) hw1
  clear hw1
  have M1 := Lib.hid (ownsMap_kx HM.out.1 (Kx.of_gr (S := fun _ => False) gw1) (fun h => h))
  go_wp2_with (at_lookup; (refine wpList_look1_hit _ rfl _ _ 46 rfl 3 27 KI Tryz.underlying46 (zeroO _) m N D rfl M1.out _ (ik id) rfl (ik_of hid) _ HM.out.2 ?_))
  go_at_call 17
  refine (AC.out _ gw1).mono ?_
  rintro e w3 ⟨B', c', rfl, hp, hB, g3⟩
  have d0 := cell_gr g3 cw1_0_0
  have d1 := cell_gr g3 cw1_0_1
  have f0 := frozen_gr g3 cw1_0_0 fw1_0_0
  have f1 := frozen_gr g3 cw1_0_1 fw1_0_1
  have z3 := World.block_lt_of_cell? _ _ d0
  have hz := zw1_0
  have G3 := Gr.trans gw1 g3
  have HP := Lib.hid (And.intro hp (And.intro hB G3))
  have s1 := gw1.size
  clear hp g3 G3
  go_wp2_with fail
  refine bodyPost_ret (res_objb (p := 4) (q := 5) (N := W.heap.size) (k := k) (u := .slice (some ⟨B', 0, none⟩) n c') (b := true) rfl rfl rfl (by go_simp) (by go_simp)) rfl ?_
  obtain ⟨hp, hB', G3⟩ := HP.out
  have hne : ¬ B' = W.heap.size := by omega
  have K : Kx (fun j => j = W.heap.size) w3 ((w3.setCell ⟨W.heap.size, 0, none⟩ (.int .i64 k)).setCell ⟨W.heap.size, 1, none⟩ (.slice (some ⟨B', 0, none⟩) n c')) := ((Kx.refl (S := fun j => j = W.heap.size) w3).setCell (p := ⟨W.heap.size, 0, none⟩) rfl _).setCell (p := ⟨W.heap.size, 1, none⟩) rfl _
  exact ⟨B', c', rfl, ⟨pts_kxW hn hp.1 K hne, fr2_kx hp.2 K hne⟩, by omega, (G3.setCell (p := ⟨W.heap.size, 0, none⟩) (Nat.le_refl _) _).setCell (p := ⟨W.heap.size, 1, none⟩) (Nat.le_refl _) _⟩
theorem own_row1W {w : World} {base e : Nat} {v u : Value} (h : w.ownsRow base e 1 v 1 [u]) : ∃ D cap, v = .slice (some ⟨D, 0, none⟩) 1 cap ∧ 1 ≤ cap ∧ (cap : Int) ≤ 9223372036854775807 ∧ base ≤ D ∧ w.cell? ⟨D, 0, none⟩ = some u := by
  rcases h.2 with ⟨_, h0⟩ | ⟨g, cap, cur, rfl, hb, hg, hn', hc, hs, ht⟩
  · cases h0
  · exact ⟨g, cap, rfl, hn', by unfold maxLen at hc; omega, hb, h.cellAt 0 (by decide)⟩
set_option maxHeartbeats 1000000 in
theorem md_ids_m {Q m n : Nat} {D : DataW Value} (W : World) (c0 : W.cell? ⟨Q, 0, none⟩ = some (.map (some m))) (hm : W.ownsMap Tryz.prog 3 heldE m n D) (hsz : Maps.size D ≤ 1000000) : Calls Tryz.prog 20 #[.pointer (some ⟨Q, 0, none⟩)] W fun e w' => ∃ (v : Value) (ss : List Int), e = .returned v ∧ ss.Perm (intKeys D) ∧ w'.ownsRow W.heap.size 3 1 v ss.length ((ss.mergeSort (fun x y => decide (x ≤ y))).map encZ) ∧ Gr W w' := by
  refine (callsIn_wide (n := 6)).1 ?_
  have z := World.block_lt_of_cell? _ _ c0
  have hbl := hm.lt
  have hmax : Maps.size D ≤ maxLen := by unfold maxLen; omega
  have hbytes : Maps.size D * 8 ≤ 140737488355328 := by omega
  have hseq : SeqGives Fence.wide 2 Tryz.prog 37 #[.pointer (some ⟨W.heap.size, 0, none⟩)] encZ (fun ss : List Int => ss.Perm (intKeys D)) (Maps.size D) (W.alloc (.cells #[.map (some m)] 46)) :=
    AnyZI.keys_gives (ρ := Tryz.keysK27_ren) { Tryz.keysK27 with } Fence.wide _ trivial rfl (by omega) W.heap.size m n D _ (by simp) (by simp) (by
      obtain ⟨es, clock, hb, Ft, hs, hD⟩ := hm
      exact ⟨es, clock, (Below.heap_alloc _ _ m hbl).trans hb, Ft, hs, hD⟩)
  have cK : ∀ mb W, CallsIn Fence.wide 5 Tryz.prog 27 #[.map mb] W fun e w' => e = .returned (.func (.func 37) #[] #[.pointer (some ⟨W.heap.size, 0, none⟩)]) ∧ w' = W.alloc (.cells #[.map mb] 46) := fun mb W => AnyZI.keys_in Tryz.keysK27 Fence.wide 5 trivial rfl mb W
  have cS := AnyZI.sorted_in Tryz.sortedK Fence.wide 5 trivial trivial trivial trivial rfl (by omega) (sortsK _) (enters_of Tryz.func36 (by kernel_rfl) rfl) 37 #[.pointer (some ⟨W.heap.size, 0, none⟩)] trivial (enters_of Tryz.func37 (by kernel_rfl) rfl) _ _ hmax hbytes _ hseq
  change CallsIn _ _ Tryz.prog 26 _ _ _ at cS
  have hfK : Fence.wide.fn 27 := trivial
  have hfS : Fence.wide.fn 26 := trivial
  clear hm
  refine callsIn_of_wp Tryz.func20 rfl trivial ?_ rfl
  simp only [Tryz.ntmps20, List.size_toArray, List.length_cons, List.length_nil, Nat.reduceAdd, Nat.reduceSub, Array.replicate_succ, Array.replicate_zero, List.push_toArray, List.append_toArray, List.nil_append, List.cons_append]
  gi_wp2_with (first
    | (gi_at_call 27; refine (cK _ _).mono ?_; rintro e w' ⟨rfl, rfl⟩)
    | (gi_at_call 26; refine cS.mono ?_; rintro e w' ⟨v, ss, rfl, hS, hrow, hnil, hb⟩))
  go_ret
  exact ⟨v, ss, rfl, hS, ownsRow_base_a hrow (by simp), ((Below.refl _ W).alloc (Nat.le_refl _) _).trans (hb.mono (by simp))⟩
theorem dO_keys (id : Nat) (u : Value) : intKeys (DO id u) = [(id : Int)] := rfl
theorem md_ids_1 {Q m id : Nat} {u : Value} (W : World) (c0 : W.cell? ⟨Q, 0, none⟩ = some (.map (some m))) (hm : W.ownsMap Tryz.prog 3 heldE m 1 (DO id u)) : Calls Tryz.prog 20 #[.pointer (some ⟨Q, 0, none⟩)] W fun e w' => ∃ L c, e = .returned (.slice (some ⟨L, 0, none⟩) 1 c) ∧ w'.cell? ⟨L, 0, none⟩ = some (.int .i64 (id : Nat)) ∧ 1 ≤ c ∧ (c : Int) ≤ 9223372036854775807 ∧ Gr W w' := by
  refine (md_ids_m W c0 hm (by rw [dO_size]; decide)).mono ?_
  rintro e w' ⟨v, ss, rfl, hS, hrow, g⟩
  rw [dO_keys] at hS
  obtain rfl := List.perm_singleton.1 hS
  have e2 : ([(id : Int)].mergeSort (fun x y => decide (x ≤ y))).map encZ = [.int .i64 (id : Nat)] := by
    rw [List.mergeSort_singleton]
    rfl
  rw [e2] at hrow
  obtain ⟨L, c, rfl, h1, h2, -, h3⟩ := own_row1W hrow
  exact ⟨L, c, rfl, h3, h1, h2, g⟩
end Go.Proofs.YtenngnlphecdeaaGreatDoor
