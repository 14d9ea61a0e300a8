/- fault: Code -/
import Derived.Test.YtgmmhddlfalehaaLh
namespace Go.Proofs.Ytgmmhddlfalehaa
set_option linter.unusedVariables false
set_option linter.unusedSimpArgs false
open Go.ChangeShapes Go.WideShapes Go.ChangeAt Go.RowKit

/-- A block of another kind is kept by what turns a walk's own. -/
theorem blk_oth {a b : World} {T : Nat → Prop} {k : Nat} {cur : Array Value} {U : TypeId} (h : a.heap[k]? = some (.cells cur U (0, 0))) (hU : U ≠ 77) (K : Kx T a b) (hT : OthV a T) : b.heap[k]? = some (.cells cur U (0, 0)) := by
  refine heap_kx K (fun hs => ?_) h
  have hl := (Array.getElem?_eq_some_iff.1 h).1
  rcases hT k hs with h' | ⟨cur', z, h'⟩ | ⟨es, c, h'⟩
  · omega
  · rw [h] at h'
    simp at h'
    exact hU h'.2.1
  · rw [h] at h'
    cases h'
def codeV (s : Int) (T : Er) : Int × Bool := match T.code with
  | some k => (k, true)
  | none => (0, false)
/-- The first number within. -/
def firstN (l : List Er) : Int := (l.findSome? Er.code).getD 0
theorem run_codeV : ∀ (l : List Er) (s : Int), (l = [] → s = 0) → runV codeV s l = firstN l
  | [], s, h => h rfl
  | T :: l, s, _ => by
    show (if (codeV s T).2 = true then (codeV s T).1 else runV codeV (codeV s T).1 l) = ((T :: l).findSome? Er.code).getD 0
    rw [List.findSome?_cons]
    unfold codeV
    cases hc : T.code with
    | some k => rfl
    | none =>
      simp only [Bool.false_eq_true, if_false]
      exact run_codeV l 0 (fun _ => rfl)
def CodeI (P : Nat) (s : Int) (w : World) : Prop := w.heap[P]? = some (.cells #[.int .i64 s] 30 (0, 0))
set_option maxRecDepth 100000 in
theorem v_code (P : Nat) (W0 : World) (hP : W0.heap.size ≤ P) (s : Int) (T : Er) (v : Value) (w : World) (G : Gr W0 w) (hI : CodeI P s w) (hT : ErT W0 T v) :
    Calls Try.prog 26 #[v, .pointer (some ⟨P, 0, none⟩)] w fun e w' => e = .returned (.bool (codeV s T).2) ∧ CodeI P (codeV s T).1 w' ∧ VFr W0 w w' := by
  have HA := Lib.hid (c_number w hT)
  have HI := Lib.hid hI
  have fin : ∀ (w1 : World) (k : Int), Gr w w1 → CodeI P k (w1.setCell ⟨P, 0, none⟩ (.int .i64 k)) ∧ VFr W0 w (w1.setCell ⟨P, 0, none⟩ (.int .i64 k)) := fun w1 k g => by
    have h1 := heap_kx (S := fun _ => False) (Kx.of_gr g) (fun h => h) hI
    refine ⟨Hm.heap_set_same (i := 0) (v := .int .i64 k) h1, fun k => k = P, (Kx.of_gr (S := fun k => k = P) g).setCell (p := ⟨P, 0, none⟩) rfl _, fun k hk => ?_⟩
    rw [show k = P from hk]
    exact ⟨hP, Or.inr ⟨_, _, _, hI, by decide⟩⟩
  have HF := Lib.hid fin
  unfold numV at HA
  unfold codeV
  clear fin hI
  cases hc : T.code with
  | some k =>
    rw [hc] at HA
    go_enter Try.func26, Try.ntmps26
    go_wp2_with fail
    go_at_call 27
    refine (HA.out).mono ?_
    rintro e w1 ⟨rfl, g1⟩
    have h1 := heap_kx (S := fun _ => False) (Kx.of_gr g1) (fun h => h) HI.out
    have c1 := Hm.cell_of_heap h1 0
    have f1 := Hm.frozen_of_heap h1 0
    have z1 := (Array.getElem?_eq_some_iff.1 h1).1
    clear h1
    go_wp2_with fail
    go_ret
    exact ⟨rfl, HF.out w1 k g1⟩
  | none =>
    rw [hc] at HA
    go_enter Try.func26, Try.ntmps26
    go_wp2_with fail
    go_at_call 27
    refine (HA.out).mono ?_
    rintro e w1 ⟨rfl, g1⟩
    have h1 := heap_kx (S := fun _ => False) (Kx.of_gr g1) (fun h => h) HI.out
    have c1 := Hm.cell_of_heap h1 0
    have f1 := Hm.frozen_of_heap h1 0
    have z1 := (Array.getElem?_eq_some_iff.1 h1).1
    clear h1
    go_wp2_with fail
    go_ret
    exact ⟨rfl, HF.out w1 0 g1⟩
set_option maxRecDepth 100000 in
theorem c_fCode {T : Er} {v : Value} (W : World) (h : ErT W T v) (hs : T.size ≤ 400000) : Calls Try.prog 12 #[v] W fun e w' => e = .returned (.int .i64 (firstN T.pre)) ∧ Gr W w' := by
  have hmf : ∀ (fn : Fn) (first cap : Array Value) (w : World), (Instr.makeFunc fn first cap).run Try.prog w = .ok (.func fn first cap) w := fun _ _ _ _ => rfl
  have A1 : ∀ w, Gr W w → CodeI W.heap.size 0 w → Calls Try.prog 23 #[v, .func (Fn.func 26) #[] #[.pointer (some ⟨W.heap.size, 0, none⟩)]] w fun e w' => e = .returned (.tuple #[]) ∧ CodeI W.heap.size (firstN T.pre) w' ∧ Gr W w' := fun w g hI => by
    have := c_walk codeV (CodeI W.heap.size) 26 #[.pointer (some ⟨W.heap.size, 0, none⟩)] W (fun s a b T hI K hT => blk_oth hI (by decide) K hT) (fun x w => by kernel_rfl) (fun _ => 0) (fun _ _ => by omega) (fun s T v w _ g hI hT _ => v_code W.heap.size W (Nat.le_refl _) s T v w g hI hT) 0 rfl T v h hs w g hI
    rw [run_codeV _ _ (fun _ => rfl)] at this
    exact this
  have H1 := Lib.hid A1
  clear A1
  clear h
  go_enter Try.func12, Try.ntmps12
  go_wp2_with fail
  go_at_call 23
  refine (H1.out _ (by go_grown) (heap_alloc_new W _)).mono ?_
  rintro e w1 ⟨rfl, hI, g1⟩
  have c1 := Hm.cell_of_heap hI 0
  have z1 := (Array.getElem?_eq_some_iff.1 hI).1
  clear hI H1
  go_wp2_with fail
  go_ret
  exact ⟨rfl, g1⟩
end Go.Proofs.Ytgmmhddlfalehaa
