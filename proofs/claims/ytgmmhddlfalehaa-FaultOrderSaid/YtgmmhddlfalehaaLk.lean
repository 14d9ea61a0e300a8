/- fault: Find -/
import Derived.Test.YtgmmhddlfalehaaLj
namespace Go.Proofs.Ytgmmhddlfalehaa
set_option linter.unusedVariables false
set_option linter.unusedSimpArgs false
open Go.ChangeShapes Go.WideShapes Go.ChangeAt Go.RowKit

theorem ba_neL {a b : ByteArray} (h : ¬ a = b) : (a.toList == b.toList) = false := by
  rw [ByteArray.toList_eq, ByteArray.toList_eq]
  exact beq_eq_false_iff_ne.2 (fun e => h (bytes_inj e))
theorem ba_eqL (a : ByteArray) : (a.toList == a.toList) = true := beq_self_eq_true _
def findV (o : ByteArray) (s : Option Er) (T : Er) : Option Er × Bool := if T.op? = some o then (some T, true) else (s, s.isSome)
/-- The first Fault of an op. -/
def firstF (o : ByteArray) (l : List Er) : Option Er := l.find? fun T => decide (T.op? = some o)
theorem run_findV (o : ByteArray) : ∀ (l : List Er), runV (findV o) none l = firstF o l
  | [] => rfl
  | T :: l => by
    show (if (findV o none T).2 = true then (findV o none T).1 else runV (findV o) (findV o none T).1 l) = (T :: l).find? fun T => decide (T.op? = some o)
    rw [List.find?_cons]
    unfold findV
    by_cases h : T.op? = some o
    · rw [if_pos h, decide_eq_true h]; rfl
    · rw [if_neg h, decide_eq_false h]
      simp only [Option.isSome_none, Bool.false_eq_true, if_false]
      exact run_findV o l
/-- What Find's variable holds. -/
def FndP (W0 : World) (s : Option Er) (p : Value) : Prop := (s = none ∧ p = .pointer none) ∨ ∃ T F, s = some T ∧ p = .pointer (some ⟨F, 0, none⟩) ∧ ErT W0 T (.iface 33 (ptrV F))
def FindI (P1 P2 : Nat) (o : ByteArray) (W0 : World) (s : Option Er) (w : World) : Prop := w.heap[P1]? = some (.cells #[.string o] 9 (0, 0)) ∧ ∃ p, w.heap[P2]? = some (.cells #[p] 33 (0, 0)) ∧ FndP W0 s p
theorem findI_oth {P1 P2 : Nat} {o : ByteArray} {W0 : World} {s : Option Er} {a b : World} {T : Nat → Prop} (h : FindI P1 P2 o W0 s a) (K : Kx T a b) (hT : OthV a T) : FindI P1 P2 o W0 s b := by
  obtain ⟨h1, p, h2, h3⟩ := h
  exact ⟨blk_oth h1 (by decide) K hT, p, blk_oth h2 (by decide) K hT, h3⟩
theorem fndP_some {W0 : World} {s : Option Er} {p : Value} (h : FndP W0 s p) : (s.isSome = false ∧ p = .pointer none) ∨ (s.isSome = true ∧ ∃ F, p = .pointer (some ⟨F, 0, none⟩)) := by
  rcases h with ⟨rfl, rfl⟩ | ⟨T, F, rfl, rfl, -⟩
  · exact Or.inl ⟨rfl, rfl⟩
  · exact Or.inr ⟨rfl, F, rfl⟩
theorem vfr_drew {W0 w w' : World} (h : VFr W0 w w') : VFr W0 w w'.drew := by
  obtain ⟨S, K, hS⟩ := h
  exact ⟨S, K.drew, hS⟩
theorem gr_drewI {P1 P2 : Nat} {o : ByteArray} {W0 w w' : World} {s : Option Er} (h : FindI P1 P2 o W0 s w') (g : VFr W0 w w') : FindI P1 P2 o W0 s w'.drew ∧ VFr W0 w w'.drew := ⟨h, vfr_drew g⟩
set_option maxHeartbeats 1000000 in
set_option maxRecDepth 100000 in
theorem v_find (P1 P2 : Nat) (o : ByteArray) (W0 : World) (hP : W0.heap.size ≤ P2) (s : Option Er) (T : Er) (v : Value) (w : World) (G : Gr W0 w) (hI : FindI P1 P2 o W0 s w) (hT : ErT W0 T v) (hn : T ≠ .nil) :
    Calls Try.prog 24 #[v, .pointer (some ⟨P1, 0, none⟩), .pointer (some ⟨P2, 0, none⟩)] w fun e w' => e = .returned (.bool (findV o s T).2) ∧ FindI P1 P2 o W0 (findV o s T).1 w' ∧ VFr W0 w w' := by
  by_cases hfl : ∃ op id kid, T = .flt op id kid
  · obtain ⟨op, id, kid, rfl⟩ := hfl
    have HTT := Lib.hid hT
    obtain ⟨F, u, rfl, c0, -⟩ := hT
    have hF : F < W0.heap.size := (Array.getElem?_eq_some_iff.1 c0).1
    have cF := cell_gr G (Hm.cell_of_heap c0 0)
    have AP := fun w => c_place_flt F w
    have HG := Lib.hid G
    have HI := Lib.hid hI
    clear hI c0 hn
    have HP := Lib.hid AP
    clear AP
    by_cases he : op = o
    · subst he
      have hv : findV op s (.flt op id kid) = (some (.flt op id kid), true) := if_pos rfl
      rw [hv]
      clear hv
      go_enter Try.func24, Try.ntmps24
      go_wp2_with fail
      go_at_call 25
      refine (HP.out _).mono ?_
      rintro e w1 ⟨rfl, g1⟩
      obtain ⟨h1, p, h2, h3⟩ := findI_oth HI.out (Kx.of_gr (S := fun _ => False) g1) (fun k h => h.elim)
      have p0 := Hm.cell_of_heap h1 0
      have q0 := Hm.cell_of_heap h2 0
      have qf := Hm.frozen_of_heap h2 0
      have zP := (Array.getElem?_eq_some_iff.1 h1).1
      have zQ := (Array.getElem?_eq_some_iff.1 h2).1
      have f0 := cell_gr g1 cF
      have zF : F < w1.heap.size := Nat.lt_of_lt_of_le hF (Gr.trans G g1).size
      have HH := Lib.hid (And.intro h1 (And.intro h2 (And.intro h3 g1)))
      clear h1 h2 h3 g1 cF G
      rcases fndP_some HH.out.2.2.1 with ⟨-, rfl⟩ | ⟨-, F', rfl⟩
      all_goals
        go_wp2_with fail
        go_region
        go_wp2_with fail
        go_ret
        refine ⟨rfl, ?_⟩
        have h1 := HH.out.1
        have h2 := HH.out.2.1
        have g1 := HH.out.2.2.2
        have K1 : Kx (fun k => k = P2) w (w1.setCell ⟨P2, 0, none⟩ (.pointer (some ⟨F, 0, none⟩))) := (Kx.of_gr (S := fun k => k = P2) g1).setCell (p := ⟨P2, 0, none⟩) rfl _
        have hne : P1 ≠ P2 := fun e => by
          rw [e, h2] at h1
          simp at h1
        refine gr_drewI ⟨heap_kx ((Kx.refl (S := fun k => k = P2) w1).setCell (p := ⟨P2, 0, none⟩) rfl _) hne h1, _, Hm.heap_set_same (i := 0) (v := .pointer (some ⟨F, 0, none⟩)) h2, Or.inr ⟨_, F, rfl, rfl, HTT.out⟩⟩ ⟨fun k => k = P2, K1, fun k hk => ?_⟩
        obtain ⟨-, p0', hp0, -⟩ := HI.out
        rw [show k = P2 from hk]
        exact ⟨hP, Or.inr ⟨_, _, _, hp0, by decide⟩⟩
    · have hv : findV o s (.flt op id kid) = (s, s.isSome) := if_neg (fun e => he (Option.some.inj e))
      rw [hv]
      have tq : (op.toList == o.toList) = false := ba_neL he
      clear hv he
      go_enter Try.func24, Try.ntmps24
      go_wp2_with fail
      go_at_call 25
      refine (HP.out _).mono ?_
      rintro e w1 ⟨rfl, g1⟩
      obtain ⟨h1, p, h2, h3⟩ := findI_oth HI.out (Kx.of_gr (S := fun _ => False) g1) (fun k h => h.elim)
      have p0 := Hm.cell_of_heap h1 0
      have q0 := Hm.cell_of_heap h2 0
      have qf := Hm.frozen_of_heap h2 0
      have zP := (Array.getElem?_eq_some_iff.1 h1).1
      have zQ := (Array.getElem?_eq_some_iff.1 h2).1
      have f0 := cell_gr g1 cF
      have zF : F < w1.heap.size := Nat.lt_of_lt_of_le hF (Gr.trans G g1).size
      have HH := Lib.hid (And.intro h1 (And.intro h2 (And.intro h3 g1)))
      clear h1 h2 h3 g1 cF G
      rcases fndP_some HH.out.2.2.1 with ⟨hs, rfl⟩ | ⟨hs, F', rfl⟩
      all_goals
        have HSS := Lib.hid hs
        clear hs
        go_wp2_with fail
        go_region
        go_wp2_with fail
        go_ret
        exact ⟨by rw [HSS.out]; rfl, gr_drewI ⟨HH.out.1, _, HH.out.2.1, HH.out.2.2.1⟩ (vfr_of_gr HH.out.2.2.2)⟩
  · have hop : T.op? = none := by
      cases T with
      | flt op id kid => exact absurd ⟨op, id, kid, rfl⟩ hfl
      | _ => rfl
    have AP : Hid (∀ w, Calls Try.prog 25 #[v] w fun e w' => e = .returned (.tuple #[.pointer none, .bool false]) ∧ Gr w w') := Lib.hid (fun w => by
      obtain ⟨p, b, hP, hc⟩ := c_place w hT
      rcases hP with ⟨op, id, kid, F, e, -⟩ | ⟨-, rfl, rfl⟩
      · exact absurd ⟨op, id, kid, e⟩ hfl
      · exact hc)
    obtain ⟨U, y, rfl⟩ := ef_ne hT hn
    have hv : findV o s T = (s, s.isSome) := by
      unfold findV
      rw [hop]
      rfl
    rw [hv]
    have HI := Lib.hid hI
    clear hI hT hfl hop hn hv
    go_enter Try.func24, Try.ntmps24
    go_wp2_with fail
    go_at_call 25
    refine (AP.out _).mono ?_
    rintro e w1 ⟨rfl, g1⟩
    obtain ⟨h1, p, h2, h3⟩ := findI_oth HI.out (Kx.of_gr (S := fun _ => False) g1) (fun k h => h.elim)
    have q0 := Hm.cell_of_heap h2 0
    have zQ := (Array.getElem?_eq_some_iff.1 h2).1
    have HH := Lib.hid (And.intro h1 (And.intro h2 (And.intro h3 g1)))
    clear h1 h2 h3 g1
    rcases fndP_some HH.out.2.2.1 with ⟨hs, rfl⟩ | ⟨hs, F', rfl⟩
    all_goals
      have HSS := Lib.hid hs
      clear hs
      go_wp2_with fail
      go_region
      go_wp2_with fail
      go_ret
      exact ⟨by rw [HSS.out]; rfl, gr_drewI ⟨HH.out.1, _, HH.out.2.1, HH.out.2.2.1⟩ (vfr_of_gr HH.out.2.2.2)⟩
/-- What Find answers. -/
def FndA (W0 : World) (s : Option Er) (e : Ending) : Prop := ∃ p, e = .returned (.tuple #[p, .bool s.isSome]) ∧ FndP W0 s p
set_option maxRecDepth 100000 in
theorem c_fFind {T : Er} {v : Value} (o : ByteArray) (W : World) (h : ErT W T v) (hs : T.size ≤ 400000) : Calls Try.prog 11 #[v, .string o] W fun e w' => FndA W (firstF o T.pre) e ∧ Gr W w' := by
  have hmf : ∀ (fn : Fn) (first cap : Array Value) (w : World), (Instr.makeFunc fn first cap).run Try.prog w = .ok (.func fn first cap) w := fun _ _ _ _ => rfl
  have A1 : ∀ (P1 P2 : Nat) w, W.heap.size ≤ P2 → Gr W w → FindI P1 P2 o W none w → Calls Try.prog 23 #[v, .func (Fn.func 24) #[] #[.pointer (some ⟨P1, 0, none⟩), .pointer (some ⟨P2, 0, none⟩)]] w fun e w' => e = .returned (.tuple #[]) ∧ FindI P1 P2 o W (firstF o T.pre) w' ∧ Gr W w' := fun P1 P2 w hP g hI => by
    have := c_walk (findV o) (FindI P1 P2 o W) 24 #[.pointer (some ⟨P1, 0, none⟩), .pointer (some ⟨P2, 0, none⟩)] W (fun s a b T hI K hT => findI_oth hI K hT) (fun x w => by kernel_rfl) (fun _ => 0) (fun _ _ => by omega) (fun s T v w _ g hI hT hn => v_find P1 P2 o W hP s T v w g hI hT hn) none rfl T v h hs w g hI
    rw [run_findV] at this
    exact this
  have H1 := Lib.hid A1
  clear A1
  clear h
  generalize firstF o T.pre = r at H1 ⊢
  have hsz : (W.alloc (.cells #[.string o] 9)).heap.size = W.heap.size + 1 := by simp
  have hnw := heap_alloc_new (W.alloc (.cells #[.string o] 9)) (.cells #[.pointer none] 33)
  rw [hsz] at hnw
  have hnv := heap_kx (S := fun _ => False) (Kx.of_gr (al_grw (W.alloc (.cells #[.string o] 9)) (.cells #[.pointer none] 33))) (fun h => h) (heap_alloc_new W (.cells #[.string o] 9))
  have HNW := Lib.hid (And.intro hnv hnw)
  clear hnv hnw hsz
  go_enter Try.func11, Try.ntmps11
  go_wp2_with fail
  go_at_call 23
  refine (H1.out W.heap.size (W.heap.size + 1) _ (by omega) (by go_grown) ⟨HNW.out.1, _, HNW.out.2, Or.inl ⟨rfl, rfl⟩⟩).mono ?_
  rintro e w1 ⟨rfl, ⟨h1, p, h2, h3⟩, g1⟩
  have c1 := Hm.cell_of_heap h2 0
  have z1 := (Array.getElem?_eq_some_iff.1 h2).1
  have HF := Lib.hid (And.intro h3 g1)
  clear h1 h2 H1 HNW
  rcases fndP_some h3 with ⟨hs', rfl⟩ | ⟨hs', F', rfl⟩
  all_goals
    have HSS := Lib.hid hs'
    clear hs' h3
    go_wp2_with fail
    go_region
    go_wp2_with fail
    go_ret2
    exact ⟨⟨_, by rw [HSS.out]; rfl, HF.out.1⟩, Gr.drew HF.out.2⟩
end Go.Proofs.Ytgmmhddlfalehaa
