/- model: a copy of a map; Get, ids, Items of a map of one object -/
import Derived.Test.YtpomllpplpalkaaGreatDoorWd
namespace Go.Proofs.YtpomllpplpalkaaGreatDoor
set_option linter.unusedVariables false
set_option linter.unusedSimpArgs false
open Go.ChangeShapes Go.WideShapes Go.ChangeAt Go.RowKit Go.Maps Go.Sort Go.Shelf

theorem eqNilO (a : Nat) (w : World) : (binOp .eql 103 (.map (some a)) (.map none)).run Tryz.prog w = .ok (.bool false) w := by kernel_rfl
theorem run_oClone {P : Program} {w : World} {r : Nat} {es : Array MapEntry} {clock : Nat} (t : TypeId) (hb : w.heap[r]? = some (.map es clock)) :
    (Extern.MapsClone.clone #[.iface t (.map (some r))]).run P w = .ok (.iface t (.map (some w.heap.size))) (w.alloc (.map es clock)) := by
  have e : Extern.MapsClone.clone #[.iface t (.map (some r))] = (getObj r >>= fun o => match o with
      | .map entries clock => (newObj (.map entries clock) >>= fun n => pure (.iface t (.map (some n))))
      | _ => stuck "maps.clone: a map expected") := rfl
  rw [e]
  simp [MapKept.run_getObj_map hb, Result.andThen, go_sem]
set_option maxRecDepth 100000 in
theorem c_oClone {b n : Nat} {D : DataW Value} (W : World) (h : W.ownsMap Tryz.prog 3 heldE b n D) :
    Calls Tryz.prog 69 #[.map (some b)] W fun e w' => e = .returned (.map (some W.heap.size)) ∧ w'.ownsMap Tryz.prog 3 heldE W.heap.size n D ∧ Gr W w' := by
  have hE := eqNilO b
  have hlt := h.lt
  obtain ⟨es, clock, hb, F, hs, hD⟩ := h
  have HD := Lib.hid (And.intro hs hD)
  clear hs hD
  go_enter Tryz.func69, Tryz.ntmps69
  go_wp2_with fail
  rw [@run_callFunc_extern Tryz.prog 104 _ Extern.MapsClone.clone Tryz.func104 (by kernel_rfl) (by kernel_rfl) (by kernel_rfl) (by kernel_rfl), run_oClone _ hb]
  simp only [Result.andThen]
  rw [Oper.upon_value]
  go_wp2_with fail
  rw [show ∀ w xT, (Instr.typeAssert (.iface 103 (.map (some W.heap.size))) xT 103 false).run Tryz.prog w = .ok (.map (some W.heap.size)) w from fun w xT => by simp [Instr.typeAssert, run_underlying Tryz.underlying103, go_sem, Result.andThen]]
  simp only [Result.andThen]
  rw [Oper.upon_value]
  go_wp2_with fail
  go_ret
  exact ⟨rfl, ⟨es, clock, (MapKept.heap_alloc W _).1, F, HD.out.1, HD.out.2⟩, by go_grown⟩
theorem res_objb {F : Func} {p q : Tmp} {tmps : Array Value} {w : World} {N : Nat} {k : Int} {u : Value} {b : Bool} (hF : F.results = #[.cell p 34, .tmp q]) (h2 : tmps.getD p undef = .pointer (some ⟨N, 0, none⟩)) (h3 : tmps.getD q undef = .bool b) (c0 : w.cell? ⟨N, 0, none⟩ = some (.int .i64 k)) (c1 : w.cell? ⟨N, 1, none⟩ = some u) :
    (results F tmps).run Tryz.prog w = .ok (.tuple #[.agg #[.int .i64 k, u], .bool b]) w := by
  have g2 : tmps[p]?.getD undef = .pointer (some ⟨N, 0, none⟩) := by simpa using h2
  have g3 : tmps[q]?.getD undef = .bool b := by simpa using h3
  simp [results, hF, go_sem, g2, g3, c0, c1]
set_option maxHeartbeats 1000000 in
theorem md_ids_m {Q m n : Nat} {D : DataW Value} (W : World) (c0 : W.cell? ⟨Q, 0, none⟩ = some (.map (some m))) (hm : W.ownsMap Tryz.prog 3 heldE m n D) (hsz : Maps.size D ≤ 1000000) : Calls Tryz.prog 70 #[.pointer (some ⟨Q, 0, none⟩)] W fun e w' => ∃ (v : Value) (ss : List Int), e = .returned v ∧ ss.Perm (intKeys D) ∧ w'.ownsRow W.heap.size 3 1 v ss.length ((ss.mergeSort (fun x y => decide (x ≤ y))).map encZ) ∧ Gr W w' := by
  refine (callsIn_wide (n := 6)).1 ?_
  have z := World.block_lt_of_cell? _ _ c0
  have hbl := hm.lt
  have hmax : Maps.size D ≤ maxLen := by unfold maxLen; omega
  have hbytes : Maps.size D * 8 ≤ 140737488355328 := by omega
  have hseq : SeqGives Fence.wide 2 Tryz.prog 145 #[.pointer (some ⟨W.heap.size, 0, none⟩)] encZ (fun ss : List Int => ss.Perm (intKeys D)) (Maps.size D) (W.alloc (.cells #[.map (some m)] 103)) :=
    AnyZI.keys_gives (ρ := Tryz.keysK105_ren) { Tryz.keysK105 with } Fence.wide _ trivial rfl (by omega) W.heap.size m n D _ (by simp) (by simp) (by
      obtain ⟨es, clock, hb, Ft, hs, hD⟩ := hm
      exact ⟨es, clock, (Below.heap_alloc _ _ m hbl).trans hb, Ft, hs, hD⟩)
  have cK : ∀ mb W, CallsIn Fence.wide 5 Tryz.prog 105 #[.map mb] W fun e w' => e = .returned (.func (.func 145) #[] #[.pointer (some ⟨W.heap.size, 0, none⟩)]) ∧ w' = W.alloc (.cells #[.map mb] 103) := fun mb W => AnyZI.keys_in Tryz.keysK105 Fence.wide 5 trivial rfl mb W
  have cS := AnyZI.sorted_in Tryz.sortedK Fence.wide 5 trivial trivial trivial trivial rfl (by omega) (sortsK _) (enters_of Tryz.func101 (by kernel_rfl) rfl) 145 #[.pointer (some ⟨W.heap.size, 0, none⟩)] trivial (enters_of Tryz.func145 (by kernel_rfl) rfl) _ _ hmax hbytes _ hseq
  change CallsIn _ _ Tryz.prog 64 _ _ _ at cS
  have hfK : Fence.wide.fn 105 := trivial
  have hfS : Fence.wide.fn 64 := trivial
  clear hm
  refine callsIn_of_wp Tryz.func70 rfl trivial ?_ rfl
  simp only [Tryz.ntmps70, List.size_toArray, List.length_cons, List.length_nil, Nat.reduceAdd, Nat.reduceSub, Array.replicate_succ, Array.replicate_zero, List.push_toArray, List.append_toArray, List.nil_append, List.cons_append]
  gi_wp2_with (first
    | (gi_at_call 105; refine (cK _ _).mono ?_; rintro e w' ⟨rfl, rfl⟩)
    | (gi_at_call 64; refine cS.mono ?_; rintro e w' ⟨v, ss, rfl, hS, hrow, hnil, hb⟩))
  go_ret
  exact ⟨v, ss, rfl, hS, ownsRow_base_a hrow (by simp), ((Below.refl _ W).alloc (Nat.le_refl _) _).trans (hb.mono (by simp))⟩
end Go.Proofs.YtpomllpplpalkaaGreatDoor
