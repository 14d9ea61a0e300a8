import Derived.Test.YtpomllpplpalkaaGreatDoorWd
import Derived.Test.YtpomllpplpalkaaGreatDoorWj
/- model: a copy of a map; Get, ids, Items of a map of one object -/
namespace Go.Proofs.YtpomllpplpalkaaGreatDoor
set_option linter.unusedVariables false
set_option linter.unusedSimpArgs false
open Go.ChangeShapes Go.WideShapes Go.ChangeAt Go.RowKit Go.Maps Go.Sort Go.Shelf

theorem eqNilO (a : Nat) (w : World) : (binOp .eql 103 (.map (some a)) (.map none)).run Tryz.prog w = .ok (.bool false) w := by kernel_rfl
theorem run_oClone {P : Program} {w : World} {r : Nat} {es : Array MapEntry} {clock : Nat} (t : TypeId) (hb : w.heap[r]? = some (.map es clock)) :
    (Extern.MapsClone.clone #[.iface t (.map (some r))]).run P w = .ok (.iface t (.map (some w.heap.size))) (w.alloc (.map es clock)) := by
  have e : Extern.MapsClone.clone #[.iface t (.map (some r))] = (getObj r >>= fun o => match o with
      | .map entries clock => (newObj (.map entries clock) >>= fun n => pure (.iface t (.map (some n))))
      | _ => stuck "maps.clone: a map expected") := rfl
  rw [e]
  simp [MapKept.run_getObj_map hb, Result.andThen, go_sem]
set_option maxRecDepth 100000 in
theorem c_oClone {b n : Nat} {D : DataW Value} (W : World) (h : W.ownsMap Tryz.prog 3 heldE b n D) :
    Calls Tryz.prog 69 #[.map (some b)] W fun e w' => e = .returned (.map (some W.heap.size)) ∧ w'.ownsMap Tryz.prog 3 heldE W.heap.size n D ∧ Gr W w' := by
  have hE := eqNilO b
  have hlt := h.lt
  obtain ⟨es, clock, hb, F, hs, hD⟩ := h
  have HD := Lib.hid (And.intro hs hD)
  clear hs hD
  go_enter Tryz.func69, Tryz.ntmps69
  go_wp2_with fail
  rw [@run_callFunc_extern Tryz.prog 104 _ Extern.MapsClone.clone Tryz.func104 (by kernel_rfl) (by kernel_rfl) (by kernel_rfl) (by kernel_rfl), run_oClone _ hb]
  simp only [Result.andThen]
  rw [Oper.upon_value]
  go_wp2_with fail
  rw [show ∀ w xT, (Instr.typeAssert (.iface 103 (.map (some W.heap.size))) xT 103 false).run Tryz.prog w = .ok (.map (some W.heap.size)) w from fun w xT => by simp [Instr.typeAssert, run_underlying Tryz.underlying103, go_sem, Result.andThen]]
  simp only [Result.andThen]
  rw [Oper.upon_value]
  go_wp2_with fail
  go_ret
  exact ⟨rfl, ⟨es, clock, (MapKept.heap_alloc W _).1, F, HD.out.1, HD.out.2⟩, by go_grown⟩
theorem res_objb {F : Func} {p q : Tmp} {tmps : Array Value} {w : World} {N : Nat} {k : Int} {u : Value} {b : Bool} (hF : F.results = #[.cell p 34, .tmp q]) (h2 : tmps.getD p undef = .pointer (some ⟨N, 0, none⟩)) (h3 : tmps.getD q undef = .bool b) (c0 : w.cell? ⟨N, 0, none⟩ = some (.int .i64 k)) (c1 : w.cell? ⟨N, 1, none⟩ = some u) :
    (results F tmps).run Tryz.prog w = .ok (.tuple #[.agg #[.int .i64 k, u], .bool b]) w := by
  have g2 : tmps[p]?.getD undef = .pointer (some ⟨N, 0, none⟩) := by simpa using h2
  have g3 : tmps[q]?.getD undef = .bool b := by simpa using h3
  simp [results, hF, go_sem, g2, g3, c0, c1]
set_option maxHeartbeats 1000000 in
theorem md_ids_m {Q m n : Nat} {D : DataW Value} (W : World) (c0 : W.cell? ⟨Q, 0, none⟩ = some (.map (some m))) (hm : W.ownsMap Tryz.prog 3 heldE m n D) (hsz : Maps.size D ≤ 1000000) : Calls Tryz.prog 70 #[.pointer (some ⟨Q, 0, none⟩)] W fun e w' => ∃ (v : Value) (ss : List Int), e = .returned v ∧ ss.Perm (intKeys D) ∧ w'.ownsRow W.heap.size 3 1 v ss.length ((ss.mergeSort (fun x y => decide (x ≤ y))).map encZ) ∧ Gr W w' := by
  refine (callsIn_wide (n := 6)).1 ?_
  have z := World.block_lt_of_cell? _ _ c0
  have hbl := hm.lt
  have hmax : Maps.size D ≤ maxLen := by unfold maxLen; omega
  have hbytes : Maps.size D * 8 ≤ 140737488355328 := by omega
  have hseq : SeqGives Fence.wide 2 Tryz.prog 145 #[.pointer (some ⟨W.heap.size, 0, none⟩)] encZ (fun ss : List Int => ss.Perm (intKeys D)) (Maps.size D) (W.alloc (.cells #[.map (some m)] 103)) :=
    AnyZI.keys_gives (ρ := Tryz.keysK105_ren) { Tryz.keysK105 with } Fence.wide _ trivial rfl (by omega) W.heap.size m n D _ (by simp) (by simp) (by
      obtain ⟨es, clock, hb, Ft, hs, hD⟩ := hm
      exact ⟨es, clock, (Below.heap_alloc _ _ m hbl).trans hb, Ft, hs, hD⟩)
  have cK : ∀ mb W, CallsIn Fence.wide 5 Tryz.prog 105 #[.map mb] W fun e w' => e = .returned (.func (.func 145) #[] #[.pointer (some ⟨W.heap.size, 0, none⟩)]) ∧ w' = W.alloc (.cells #[.map mb] 103) := fun mb W => AnyZI.keys_in Tryz.keysK105 Fence.wide 5 trivial rfl mb W
  have cS := AnyZI.sorted_in Tryz.sortedK Fence.wide 5 trivial trivial trivial trivial rfl (by omega) (sortsK _) (enters_of Tryz.func101 (by kernel_rfl) rfl) 145 #[.pointer (some ⟨W.heap.size, 0, none⟩)] trivial (enters_of Tryz.func145 (by kernel_rfl) rfl) _ _ hmax hbytes _ hseq
  change CallsIn _ _ Tryz.prog 64 _ _ _ at cS
  have hfK : Fence.wide.fn 105 := trivial
  have hfS : Fence.wide.fn 64 := trivial
  clear hm
  refine callsIn_of_wp Tryz.func70 rfl trivial ?_ rfl
  simp only [Tryz.ntmps70, List.size_toArray, List.length_cons, List.length_nil, Nat.reduceAdd, Nat.reduceSub, Array.replicate_succ, Array.replicate_zero, List.push_toArray, List.append_toArray, List.nil_append, List.cons_append]
  gi_wp2_with (first
    | (gi_at_call 105; refine (cK _ _).mono ?_; rintro e w' ⟨rfl, rfl⟩)
    | (gi_at_call 64; refine cS.mono ?_; rintro e w' ⟨v, ss, rfl, hS, hrow, hnil, hb⟩))
  go_ret
  exact ⟨v, ss, rfl, hS, ownsRow_base_a hrow (by simp), ((Below.refl _ W).alloc (Nat.le_refl _) _).trans (hb.mono (by simp))⟩
end Go.Proofs.YtpomllpplpalkaaGreatDoor
/- model: Apply over all cases; Copy of any map -/
namespace Go.Proofs.YtpomllpplpalkaaGreatDoor
set_option linter.unusedVariables false
set_option linter.unusedSimpArgs false
open Go.ChangeShapes Go.WideShapes Go.ChangeAt Go.RowKit Go.Maps

def apN (σ : Int → Option MO) (kd id k : Int) (n : Nat) (X Y : Nat → Int) : Nat := if chgC kd id k n X Y ≠ 0 then chgC kd id k n X Y else if kd = 1 then (if (σ id).isSome then 6 else 0) else if (σ id).isSome then 0 else 7
def apS (σ : Int → Option MO) (kd id k : Int) (n : Nat) (X Y : Nat → Int) : Int → Option MO := if apN σ kd id k n X Y ≠ 0 then σ else if kd = 1 then updS σ id (some ⟨k, n, X, Y⟩) else updS σ id none
def MdTo (W : World) (Q : Nat) (M : Option Nat) (N : Nat) (id : Int) (c : Nat) (σ : Int → Option MO) (e : Ending) (w' : World) : Prop := ∃ op v M', e = .returned v ∧ WErr op w' v id c ∧ (op = modelS ∨ op = changeS) ∧ MdAt w' Q M' σ (N + 1) ∧ (∀ m, M' = some m → M = some m ∨ W.heap.size ≤ m) ∧ Kx (fun j => j = Q ∨ M = some j) W w'
theorem mdAt_le {w : World} {Q N N' : Nat} {M : Option Nat} {σ : Int → Option MO} (h : MdAt w Q M σ N) (hn : N ≤ N') : MdAt w Q M σ N' := ⟨h.1, h.2.1, fun m hm => by
  obtain ⟨D, h1, h2⟩ := h.2.2 m hm
  exact ⟨D, ownsMap_le h1 hn, h2⟩⟩
theorem kx_gr {S : Nat → Prop} {a b : World} (g : Gr a b) : Kx S a b := (Kx.of_gr (S := fun _ => False) g).mono (fun _ h => h.elim)
theorem faultAt_werr {op : ByteArray} {w : World} {B : Nat} {id : Int} {k : Nat} (hk : 1 ≤ k ∧ k ≤ 15) (h : FaultAt w B op id k) : WErr op w (.iface 108 (.pointer (some ⟨B, 0, none⟩))) id k := Or.inr ⟨B, _, 0, rfl, hk.1, hk.2, h.1, h.2.1, h.2.2, rfl⟩
theorem md_Apply {Q N : Nat} {M : Option Nat} {σ : Int → Option MO} {kd id k : Int} {n : Nat} {X Y : Nat → Int} {v : Value} (hi : i64R id) (hN : N < 1000000) (W : World) (hM : MdAt W Q M σ N) (h : Pts W v n X Y) :
    Calls Tryz.prog 27 #[.pointer (some ⟨Q, 0, none⟩), .agg #[.int .i64 kd, .int .i64 id, .int .i64 k, v]] W fun e w' => MdTo W Q M N id (apN σ kd id k n X Y) (apS σ kd id k n X Y) e w' := by
  have keep : ∀ {w' : World}, Gr W w' → MdAt w' Q M σ (N + 1) ∧ (∀ m, M = some m → M = some m ∨ W.heap.size ≤ m) ∧ Kx (fun j => j = Q ∨ M = some j) W w' := fun g => ⟨mdAt_le (mdAt_gr hM g) (Nat.le_succ _), fun m hm => Or.inl hm, kx_gr g⟩
  by_cases hc : chgC kd id k n X Y = 0
  · rcases (chgC_ok hc).2.2 with ⟨rfl, ho⟩ | ⟨rfl, rfl, rfl⟩
    · have on := objC_near ho
      cases hs : (σ id).isSome with
      | true =>
        have eN : apN σ 1 id k n X Y = 6 := by unfold apN; rw [if_neg (fun h => h hc), if_pos rfl, if_pos hs]
        have eS : apS σ 1 id k n X Y = σ := by unfold apS; rw [eN]; exact if_pos (by decide)
        rw [eN, eS]
        refine (md_ap_dup hi W hM h hc hs).mono ?_
        rintro e w' ⟨F, rfl, hf, g⟩
        exact ⟨_, _, M, rfl, faultAt_werr (by decide) hf, Or.inl rfl, keep g⟩
      | false =>
        have eN : apN σ 1 id k n X Y = 0 := by unfold apN; rw [if_neg (fun h => h hc), if_pos rfl, if_neg (by rw [hs]; decide)]
        have eS : apS σ 1 id k n X Y = updS σ id (some ⟨k, n, X, Y⟩) := by unfold apS; rw [eN, if_neg (by decide), if_pos rfl]
        rw [eN, eS]
        cases M with
        | none =>
          refine (md_ap_new hi on.2.2.2.1 (by omega) hN W hM h hc hs).mono ?_
          rintro e w' ⟨m, rfl, hm, hl, K⟩
          exact ⟨modelS, _, some m, rfl, Or.inl ⟨rfl, rfl⟩, Or.inl rfl, hm, fun m' h' => Or.inr (by cases h'; exact hl), K.mono (fun j h => Or.inl h)⟩
        | some m =>
          refine (md_ap_put hi on.2.2.2.1 (by omega) hN W hM h hc hs).mono ?_
          rintro e w' ⟨rfl, hm, K⟩
          exact ⟨modelS, _, some m, rfl, Or.inl ⟨rfl, rfl⟩, Or.inl rfl, hm, fun m' h' => Or.inl h', K.mono (fun j h => Or.inr (congrArg some h.symm))⟩
    · cases hs : (σ id).isSome with
      | false =>
        have eN : apN σ 2 id 0 0 X Y = 7 := by unfold apN; rw [if_neg (fun h => h hc), if_neg (by decide), if_neg (by rw [hs]; decide)]
        have eS : apS σ 2 id 0 0 X Y = σ := by unfold apS; rw [eN]; exact if_pos (by decide)
        rw [eN, eS]
        refine (md_ap_abs hi W hM h hc hs).mono ?_
        rintro e w' ⟨F, rfl, hf, g⟩
        exact ⟨_, _, M, rfl, faultAt_werr (by decide) hf, Or.inl rfl, keep g⟩
      | true =>
        have eN : apN σ 2 id 0 0 X Y = 0 := by unfold apN; rw [if_neg (fun h => h hc), if_neg (by decide), if_pos hs]
        have eS : apS σ 2 id 0 0 X Y = updS σ id none := by unfold apS; rw [eN, if_neg (by decide), if_neg (by decide)]
        rw [eN, eS]
        cases M with
        | none => rw [hM.2.1 rfl id] at hs; cases hs
        | some m =>
          refine (md_ap_del hi W hM h hc hs).mono ?_
          rintro e w' ⟨rfl, hm, K⟩
          exact ⟨modelS, _, some m, rfl, Or.inl ⟨rfl, rfl⟩, Or.inl rfl, mdAt_le hm (Nat.le_succ _), fun m' h' => Or.inl h', K.mono (fun j h => Or.inr (congrArg some h.symm))⟩
  · have eN : apN σ kd id k n X Y = chgC kd id k n X Y := if_pos hc
    have eS : apS σ kd id k n X Y = σ := by unfold apS; rw [eN]; exact if_pos hc
    rw [eN, eS]
    refine (md_ap_bad hi W hM h hc).mono ?_
    rintro e w' ⟨F, rfl, hf, g⟩
    exact ⟨_, _, M, rfl, hf, Or.inr rfl, keep g⟩
set_option maxRecDepth 100000 in
theorem c_oClone0 (W : World) : Calls Tryz.prog 69 #[.map none] W fun e w' => e = .returned (.map none) ∧ Gr W w' := by
  have hE := md_eqm
  go_enter Tryz.func69, Tryz.ntmps69
  go_wp2_with fail
  go_ret
  exact ⟨rfl, by go_grown⟩
def CopyTo (W : World) (N : Nat) (σ : Int → Option MO) (e : Ending) (w' : World) : Prop := ∃ C M', e = .returned (.pointer (some ⟨C, 0, none⟩)) ∧ W.heap.size ≤ C ∧ (∀ m, M' = some m → W.heap.size ≤ m) ∧ MdAt w' C M' σ N ∧ Gr W w'
theorem mdAt_new {w : World} {N : Nat} {M : Option Nat} {σ : Int → Option MO} (h1 : M = none → ∀ z, σ z = none) (h2 : ∀ m, M = some m → ∃ D, w.ownsMap Tryz.prog 3 heldE m N D ∧ MAt w D σ) : MdAt (w.alloc (.cells #[.map M] 105)) w.heap.size M σ N :=
  ⟨(by show (w.heap.push _)[w.heap.size]? = _; exact Array.getElem?_push_size), h1, fun m hm => by
    obtain ⟨D, o, a⟩ := h2 m hm
    exact ⟨D, o.alloc _, mAt_kx (S := fun _ => False) a (Kx.of_gr ((Below.refl _ _).alloc (Nat.le_refl _) _)) (fun _ _ _ h => h)⟩⟩
set_option maxRecDepth 100000 in
theorem md_Copy {Q N : Nat} {M : Option Nat} {σ : Int → Option MO} (W : World) (hM : MdAt W Q M σ N) : Calls Tryz.prog 25 #[.pointer (some ⟨Q, 0, none⟩)] W fun e w' => CopyTo W N σ e w' := by
  have c0 : W.cell? ⟨Q, 0, none⟩ = some (.map M) := Hm.cell_of_heap hM.1 0
  have z := World.block_lt_of_cell? _ _ c0
  have HM := Lib.hid hM
  cases M with
  | none =>
    clear hM
    go_enter Tryz.func25, Tryz.ntmps25
    go_wp2_with fail
    go_at_call 69
    refine (c_oClone0 _).mono ?_
    rintro e w1 ⟨rfl, g1⟩
    have G1 : Gr W w1 := Gr.trans (by go_grown) g1
    have HG := Lib.hid G1
    clear g1 G1
    go_wp2_with fail
    go_ret
    exact ⟨_, none, rfl, HG.out.size, fun m h => (by cases h), mdAt_new HM.out.2.1 (fun m h => (by cases h)), HG.out.alloc HG.out.size _⟩
  | some m =>
    obtain ⟨D, hD, hA⟩ := hM.2.2 m rfl
    have AC := Lib.hid (fun w (g : Gr W w) => c_oClone w (ownsMap_kx hD (Kx.of_gr (S := fun _ => False) g) (fun h => h)))
    have HA := Lib.hid hA
    clear hM hD hA
    go_enter Tryz.func25, Tryz.ntmps25
    go_wp2_with fail
    go_at_call 69
    refine (AC.out _ (by go_grown)).mono ?_
    rintro e w1 ⟨rfl, m1, g1⟩
    have G1 : Gr W w1 := Gr.trans (by go_grown) g1
    have HG := Lib.hid (And.intro G1 m1)
    clear g1 G1 m1
    go_wp2_with fail
    go_ret
    exact ⟨_, some _, rfl, HG.out.1.size, fun m' h => (by cases h; go_simp), mdAt_new (fun h => (by cases h)) (fun m' h => (by
      cases h
      exact ⟨D, HG.out.2, mAt_kx (S := fun _ => False) HA.out (Kx.of_gr HG.out.1) (fun _ _ _ h => h)⟩)), HG.out.1.alloc HG.out.1.size _⟩
end Go.Proofs.YtpomllpplpalkaaGreatDoor
