/- fault: a walk's stack of steps; pushAll -/
import Derived.Test.YtgmmhddlfalehaaLc
import Derived.Test.YtgmmhddlfalehaaRo
import Derived.WalkSmall
namespace Go.Proofs.Ytgmmhddlfalehaa
set_option linter.unusedVariables false
set_option linter.unusedSimpArgs false
open Go.ChangeShapes Go.WideShapes Go.ChangeAt Go.RowKit

/-- A step of a walk. -/
inductive It where
  | look (T : Er) (v : Value)
  | leave (F : Nat) (T : Er)
def It.cells : It → List Value
  | .look _ v => [v, .pointer none]
  | .leave F _ => [.nilIface, .pointer (some ⟨F, 0, none⟩)]
def cellsI : List It → List Value
  | [] => []
  | x :: l => x.cells ++ cellsI l
theorem cellsI_append : ∀ (a b : List It), cellsI (a ++ b) = cellsI a ++ cellsI b
  | [], b => rfl
  | x :: a, b => by show x.cells ++ cellsI (a ++ b) = (x.cells ++ cellsI a) ++ cellsI b; rw [cellsI_append a b, List.append_assoc]
theorem It.cells_len (x : It) : x.cells.length = 2 := by cases x <;> rfl
theorem cellsI_len : ∀ (l : List It), (cellsI l).length = l.length * 2
  | [] => rfl
  | x :: l => by
    show (x.cells ++ cellsI l).length = _
    rw [List.length_append, x.cells_len, cellsI_len l, List.length_cons]
    omega
theorem cellsI_get : ∀ (l : List It) (i : Nat) (h : i < l.length), (cellsI l)[i * 2]? = l[i].cells[0]? ∧ (cellsI l)[i * 2 + 1]? = l[i].cells[1]?
  | x :: l, 0, _ => by
    have := x.cells_len
    constructor
    · show (x.cells ++ cellsI l)[0]? = _
      rw [List.getElem?_append_left (by omega)]; rfl
    · show (x.cells ++ cellsI l)[1]? = _
      rw [List.getElem?_append_left (by omega)]; rfl
  | x :: l, i + 1, h => by
    have := x.cells_len
    have ih := cellsI_get l i (by simpa using h)
    constructor
    · show (x.cells ++ cellsI l)[(i + 1) * 2]? = (l[i]'(by simpa using h)).cells[0]?
      rw [List.getElem?_append_right (by omega), this, show (i + 1) * 2 - 2 = i * 2 by omega]
      exact ih.1
    · show (x.cells ++ cellsI l)[(i + 1) * 2 + 1]? = (l[i]'(by simpa using h)).cells[1]?
      rw [List.getElem?_append_right (by omega), this, show (i + 1) * 2 + 1 - 2 = i * 2 + 1 by omega]
      exact ih.2
/-- The stack, its top last. -/
def TodoS (w : World) (base : Nat) (v : Value) (st : List It) : Prop := w.ownsRow base 77 2 v st.length (cellsI st)
theorem todoS_kx {a b : World} {base : Nat} {v : Value} {st : List It} {S : Nat → Prop} (h : TodoS a base v st) (K : Kx S a b) (hS : ∀ k, v.ownBlock = some k → ¬ S k) : TodoS b base v st :=
  rowOwn_kxS h K hS
theorem todoS_gr {a b : World} {base : Nat} {v : Value} {st : List It} (h : TodoS a base v st) (g : Gr a b) : TodoS b base v st :=
  rowOwn_gr h g
theorem todo_form {w : World} {base : Nat} {v : Value} {st : List It} (h : TodoS w base v st) : ∃ ad cap, v = .slice ad st.length cap := by
  rcases h.2 with ⟨e, h0⟩ | ⟨g, cap, cur, e, _⟩
  · exact ⟨none, 0, by rw [e, h0]⟩
  · exact ⟨_, _, e⟩
/-- What is pushed of a row of errors. -/
def kst (kids : Nat → Er) (us : Nat → Value) (m : Nat) : Nat → List It
  | 0 => []
  | t + 1 => kst kids us m t ++ [.look (kids (m - 1 - t)) (us (m - 1 - t))]
theorem kst_len (kids : Nat → Er) (us : Nat → Value) (m : Nat) : ∀ t, (kst kids us m t).length = t
  | 0 => rfl
  | t + 1 => by show (kst kids us m t ++ _).length = _; rw [List.length_append, kst_len kids us m t]; rfl
theorem kst_mem {kids : Nat → Er} {us : Nat → Value} {m : Nat} : ∀ {t : Nat} {x : It}, x ∈ kst kids us m t → t ≤ m → ∃ i, i < m ∧ x = .look (kids i) (us i)
  | 0, x, h, _ => by cases h
  | t + 1, x, h, ht => by
    rcases List.mem_append.1 h with h | h
    · exact kst_mem h (by omega)
    · exact ⟨m - 1 - t, by omega, by simpa using h⟩
theorem kst_succ (kids : Nat → Er) (us : Nat → Value) (m t : Nat) : kst kids us m (t + 1) = kst kids us m t ++ [.look (kids (m - 1 - t)) (us (m - 1 - t))] := rfl
theorem al_le (w : World) (o : Obj) : w.heap.size ≤ (w.alloc o).heap.size := by simp
theorem al_grw (w : World) (o : Obj) : Gr w (w.alloc o) := (Below.refl _ _).alloc (Nat.le_refl _) _
set_option maxHeartbeats 1000000 in
set_option maxRecDepth 100000 in
theorem c_pushAll {base : Nat} {v l : Value} {st : List It} {m : Nat} {kids : Nat → Er} {us : Nat → Value} {W0 W1 : World} (W : World) (h : TodoS W base v st) (hb : base ≤ W.heap.size) (hs : st.length ≤ 1000000) (hm : m ≤ 1000000)
    (hl : Kids W0 W1 W l m kids us) (h0 : W0.heap.size ≤ base) (h1 : ∀ k, v.ownBlock = some k → k < W1.heap.size) :
    Calls Try.prog 33 #[v, l] W fun e w' => ∃ v', e = .returned v' ∧ TodoS w' base v' (st ++ kst kids us m m) ∧ (∀ k, v'.ownBlock = some k → v.ownBlock = some k ∨ W.heap.size ≤ k) ∧ Kx (fun k => v.ownBlock = some k ∨ W.heap.size ≤ k) W w' := by
  obtain ⟨i0, hi0, hz0, hz1, hz2⟩ := info_parts (P := Try.prog) (e := 77) (z := .agg #[.nilIface, .pointer none]) (size := 2) (bytes := 24) (by kernel_rfl)
  have HI := Lib.hid (And.intro hi0 (And.intro hz0 (And.intro hz1 hz2)))
  clear hi0 hz0 hz1 hz2
  obtain ⟨ad, cap, B, off, rfl, l1, l2, l3, l4⟩ := hl
  have e1 : wrap64 ((m : Int) - 1) = (m : Int) - 1 := wr_small (by omega)
  have e2 : IntKind.i64.wrap ((m : Int) - 1) = (m : Int) - 1 := wk_small (by omega)
  have HK := Lib.hid (And.intro l3 (And.intro l4 (And.intro h0 (And.intro h1 h))))
  clear l3 l4 h0 h1 h
  go_enter Try.func33, Try.ntmps33
  go_wp2_with fail
  go_loopg [0, 5] m (fun j x y wr => ∃ t : Nat, y = .int .i64 ((m : Int) - 1 - t) ∧ t ≤ m ∧ j = m - t ∧ Hid (TodoS wr base x (st ++ kst kids us m t)) ∧ Hid (∀ k, x.ownBlock = some k → v.ownBlock = some k ∨ W.heap.size ≤ k) ∧ Hid (Kx (fun k => v.ownBlock = some k ∨ W.heap.size ≤ k) W wr))
  case atStart => exact ⟨0, by simp, by omega, by omega, Lib.hid (by show TodoS _ _ _ (st ++ []); rw [List.append_nil]; exact HK.out.2.2.2.2), Lib.hid (fun k hk => Or.inl hk), Lib.hid (Kx.refl _)⟩
  case round =>
    obtain ⟨t, rfl, ht, hj, HT, HO, HX⟩ := hrel
    by_cases htm : t < m
    · obtain ⟨a, ea⟩ : ∃ a : Nat, a = m - 1 - t := ⟨_, rfl⟩
      have eai : (m : Int) - 1 - (t : Int) = (a : Int) := by omega
      have ham : a < m := by omega
      obtain ⟨l3, l4, h0, h1, hT0⟩ := HK.out
      obtain ⟨rfl, hBB⟩ := l3 (by omega)
      obtain ⟨hca, hEa⟩ := l4 a ham
      have hBW : B < W.heap.size := World.block_lt_of_cell? _ _ hca
      have hnS : ¬ (v.ownBlock = some B ∨ W.heap.size ≤ B) := fun e => by
        rcases e with e | e
        · have hv := World.ownsRow.lt hT0 B e
          have := h1 B e
          omega
        · omega
      have q0 := cell_kx HX.out (p := ⟨B, off + a, none⟩) hnS hca
      have hu := erT_if hEa
      have hks : kst kids us m (t + 1) = kst kids us m t ++ [.look (kids a) (us a)] := by rw [kst_succ, ← ea]
      have hlen : (st ++ kst kids us m t).length = st.length + t := by rw [List.length_append, kst_len]
      obtain ⟨xa, xc, rfl⟩ := todo_form HT.out
      have hR : wr.ownsRow base 77 2 (.slice xa (st ++ kst kids us m t).length xc) (st ++ kst kids us m t).length (cellsI (st ++ kst kids us m t)) := HT.out
      rw [hlen] at hR ⊢
      have HRR := Lib.hid hR
      have HKS := Lib.hid (And.intro hks (And.intro hlen hT0))
      have sX := HX.out.size
      have t1 : decide ((0 : Int) ≤ (a : Int)) = true := decide_eq_true (by omega)
      have t2 : (0 : Int) ≤ (a : Int) := by omega
      have t3 : (a : Int) < (m : Int) := by omega
      have t4 : (a : Int) < (cap : Int) := by omega
      have e3 : wrap64 ((a : Int) - 1) = (m : Int) - 1 - ((t + 1 : Nat) : Int) := by rw [wr_small (by omega)]; omega
      have e4 : IntKind.i64.wrap ((a : Int) - 1) = (m : Int) - 1 - ((t + 1 : Nat) : Int) := by rw [wk_small (by omega)]; omega
      rw [eai]
      generalize hz : (m : Int) - 1 - ((t + 1 : Nat) : Int) = z at e3 e4
      have HZ := Lib.hid (And.intro hz ea)
      clear l3 l4 h0 h1 hT0 hca hEa hBB hks hlen hR HT hz ea
      generalize us a = ua at q0 hu HKS
      rcases hu with rfl | ⟨U, y, rfl⟩
      all_goals
        go_wp2_with (at_builtin; go_loud ((refine wpList_append_own2 _ rfl (.tmp 13) (.tmp 19) 78 rfl base 77 i0 (.agg #[.nilIface, .pointer none]) 2 24 Try.underlying78 HI.out.1 HI.out.2.1 HI.out.2.2.1 HI.out.2.2.2 rfl (by decide) (.slice xa (st.length + t) xc) (st.length + t) _ rfl (rowOwn_gr HRR.out (by go_grown)) ⟨wr.heap.size, 0, none⟩ 1 1 [_, .pointer none] rfl rfl (cell_two_new _ _ _ _) (by intro u hu; simp only [List.mem_cons, List.not_mem_nil, or_false] at hu; rcases hu with rfl | rfl <;> rfl) (by unfold maxLen; omega) (by omega) (Nat.le_trans hb (Nat.le_trans sX (by simp))) ?_); intro x2 w2 o2 g2))
        have HT2 : Hid (TodoS w2 base x2 (st ++ kst kids us m (t + 1))) := Lib.hid (by
          obtain ⟨hks, hlen, -⟩ := HKS.out
          have hl2 : (st ++ kst kids us m (t + 1)).length = st.length + t + 1 := by rw [List.length_append, kst_len]; omega
          unfold TodoS
          rw [hl2, hks, ← List.append_assoc, cellsI_append]
          exact o2)
        have hO2 : ∀ k, x2.ownBlock = some k → v.ownBlock = some k ∨ W.heap.size ≤ k := fun k hk => by
          rcases g2.2 k hk with h | h
          · exact HO.out k (by first | exact h | (rw [← h]; cases xa <;> rfl))
          · exact Or.inr (Nat.le_trans sX (Nat.le_trans (al_le _ _) h))
        have HX2 : Hid (Kx (fun k => v.ownBlock = some k ∨ W.heap.size ≤ k) W w2) := Lib.hid ((HX.out.trans (Kx.of_gr (al_grw wr _))).trans ((kx_grown g2).mono (fun k hk => HO.out k (by first | exact hk | (have hk' : (Value.slice xa (st.length + t) xc).ownBlock = some k := hk; rw [← hk']; cases xa <;> rfl)))))
        have HO2 := Lib.hid hO2
        go_roundg (m - (t + 1))
        case measure => omega
        case rel => exact ⟨t + 1, by rw [← HZ.out.1], by omega, by omega, HT2, HO2, HX2⟩
    · obtain rfl : t = m := by omega
      have t1 : decide ((0 : Int) ≤ (t : Int) - 1 - (t : Int)) = false := decide_eq_false (by omega)
      have t2 : ¬ (0 : Int) ≤ (t : Int) - 1 - (t : Int) := by omega
      obtain ⟨z, hz⟩ : ∃ z, z = (t : Int) - 1 - (t : Int) := ⟨_, rfl⟩
      rw [← hz] at t1 t2 ⊢
      clear hz
      go_wp2_with fail
      go_ret
      exact ⟨_, rfl, HT.out, HO.out, HX.out⟩
end Go.Proofs.Ytgmmhddlfalehaa
