/- the document's disk: its head is written; op, Cut -/
import Derived.Test.YtkbdhhmkdjajgaaDoorNc
import Derived.Test.YtkbdhhmkdjajgaaDoorMk
namespace Go.Proofs.YtkbdhhmkdjajgaaDoor
set_option linter.unusedVariables false
set_option linter.unusedSimpArgs false
open Go.ChangeShapes Go.WideShapes Go.ChangeAt Go.RowKit Go.Maps

theorem gSl_oth {a b : World} {S Z : Nat → Prop} {L : List UInt8} {v : Value} (h : GSl a Z L v) (K : Kx S a b) (hS : OthS a S) : GSl b Z L v := by
  rcases h with h | h
  · exact Or.inl h
  · exact Or.inr (rowOff_oth h K hS)
section
variable {base q : Nat} {Z : Nat → Prop} {d : Dk} {gv av nv : Value} {gs ns : List Value} {dl : Int}
/-- The counts change, the rows stay. -/
theorem refD_head {a b : World} {d' : Dk} {dl' : Int} (h : RefD base a q Z d gv av nv gs ns dl) (K : Kx (fun k => k = q) a b) (hb : b.heap[q]? = some (.cells #[gv, av, nv, .int .i64 (d'.ops : Nat), .bool d'.cut, .int .i64 dl', .bool d'.off] 62 (0, 0))) (hok : d'.ok) (e1 : d'.n = d.n) (e2 : d'.good = d.good) (e3 : d'.ord = d.ord) (e4 : d'.F = d.F) (hl : d'.cut = true → dl' = d'.left) : RefD base b q Z d' gv av nv gs ns dl' := by
  have hO : OthS a (fun k => k = q) := fun k hk => by
    subst hk
    exact Or.inr ⟨_, _, by decide, h.head⟩
  have ne : ∀ (T : TypeId) (v : Value) (n size : Nat) (xs : List Value), T ≠ 62 → a.ownsRow 0 T size v n xs → ∀ k, v.ownBlock = some k → ¬ k = q := fun T v n size xs hT ho k hk e => by
    obtain ⟨cur, hc⟩ := own_typed ho hk
    rw [e, h.head] at hc
    have := Option.some.inj hc
    simp at this
    exact hT this.2.symm
  refine ⟨hb, hok, hl, ?_, ?_, ?_, ?_, ?_, h.offQ, h.offG, h.offA, h.offN⟩
  · rw [e1]; exact rowOwn_kxS h.good K (ne _ _ _ _ _ (by decide) h.good)
  · rw [e1, e2]; intro j hj; obtain ⟨v, e, r⟩ := h.gsl j hj; exact ⟨v, e, gSl_oth r K hO⟩
  · rw [e3]; exact rowOwn_kxS h.at_ K (ne _ _ _ _ _ (by decide) h.at_)
  · rw [e3]; exact rowOwn_kxS h.new K (ne _ _ _ _ _ (by decide) h.new)
  · rw [e3, e4]; intro j hj; obtain ⟨v, e, r⟩ := h.nsl j hj; exact ⟨v, e, rowOff_oth r K hO⟩
/-- What op leaves: the same rows. -/
def ROp (base : Nat) (W w' : World) (q : Nat) (Z : Nat → Prop) (d' : Dk) (gv av nv : Value) (gs ns : List Value) : Prop := (∃ dl', RefD base w' q Z d' gv av nv gs ns dl') ∧ Kx (fun k => k = q) W w'
set_option maxHeartbeats 1000000 in
set_option maxRecDepth 100000 in
theorem rd_op_on (ho : d.on) (hn : d.ops < 1000000) (W : World) (h : RefD base W q Z d gv av nv gs ns dl) : Calls Tryd.prog 32 #[.pointer (some ⟨q, 0, none⟩)] W fun e w' => e = .returned (.bool true) ∧ ROp base W w' q Z d.opd gv av nv gs ns := by
  obtain ⟨sq, -, -, -, c3, c4, c5, c6, fz⟩ := refD_cells h
  have f3 := fz 3
  have f5 := fz 5
  have hok := opd_ok h.ok ho hn
  obtain ⟨l1, l2⟩ := left_wrap (left_lo h.ok ho) h.ok.lft.out.2
  have o1 : IntKind.i64.wrap ((d.ops : Int) + 1) = ((d.ops + 1 : Nat) : Int) := by rw [wk_small (by omega)]; omega
  have o2 : wrap64 ((d.ops : Int) + 1) = ((d.ops + 1 : Nat) : Int) := by rw [wr_small (by omega)]; omega
  have H := Lib.hid (And.intro h hok)
  obtain ⟨ho1, ho2⟩ := ho
  rw [ho1] at c6
  cases hc : d.cut with
  | false =>
    rw [hc] at c4
    have fin : ∀ w', w' = W.setCell ⟨q, 3, none⟩ (.int .i64 ((d.ops + 1 : Nat) : Int)) → ROp base W w' q Z d.opd gv av nv gs ns := by
      rintro w' rfl
      have K : Kx (fun k => k = q) W (W.setCell ⟨q, 3, none⟩ (.int .i64 ((d.ops + 1 : Nat) : Int))) := (Kx.refl (S := fun k => k = q) W).setCell (p := ⟨q, 3, none⟩) rfl _
      exact ⟨⟨dl, refD_head H.out.1 K (Hm.heap_set_same H.out.1.head) H.out.2 rfl rfl rfl rfl (fun e => by rw [show d.opd.cut = d.cut from rfl, hc] at e; cases e)⟩, K⟩
    have HF := Lib.hid fin
    generalize d.ops = o at *
    clear fin h hok l1 l2 ho1 ho2 fz
    go_enter Tryd.func32, Tryd.ntmps32
    go_wp2_with fail
    go_ret
    exact ⟨rfl, HF.out _ rfl⟩
  | true =>
    rw [hc] at c4
    obtain rfl := h.lft hc
    have hl1 := ho2 hc
    have t1 : decide (d.left < 1) = false := decide_eq_false (by omega)
    have fin : ∀ w', w' = (W.setCell ⟨q, 3, none⟩ (.int .i64 ((d.ops + 1 : Nat) : Int))).setCell ⟨q, 5, none⟩ (.int .i64 (d.left - 1)) → ROp base W w' q Z d.opd gv av nv gs ns := by
      rintro w' rfl
      have K : Kx (fun k => k = q) W ((W.setCell ⟨q, 3, none⟩ (.int .i64 ((d.ops + 1 : Nat) : Int))).setCell ⟨q, 5, none⟩ (.int .i64 (d.left - 1))) := ((Kx.refl (S := fun k => k = q) W).setCell (p := ⟨q, 3, none⟩) rfl _).setCell (p := ⟨q, 5, none⟩) rfl _
      exact ⟨⟨d.left - 1, refD_head H.out.1 K (Hm.heap_set_same (Hm.heap_set_same H.out.1.head)) H.out.2 rfl rfl rfl rfl (fun e => rfl)⟩, K⟩
    have HF := Lib.hid fin
    generalize d.ops = o at *
    generalize d.left = lf at *
    clear fin h hok ho1 ho2 fz hl1
    go_enter Tryd.func32, Tryd.ntmps32
    go_wp2_with fail
    go_ret
    exact ⟨rfl, HF.out _ rfl⟩
set_option maxHeartbeats 1000000 in
set_option maxRecDepth 100000 in
theorem rd_op_off (ho : ¬ d.on) (hn : d.ops < 1000000) (W : World) (h : RefD base W q Z d gv av nv gs ns dl) : Calls Tryd.prog 32 #[.pointer (some ⟨q, 0, none⟩)] W fun e w' => e = .returned (.bool false) ∧ ROp base W w' q Z d.opx gv av nv gs ns := by
  obtain ⟨sq, -, -, -, c3, c4, c5, c6, fz⟩ := refD_cells h
  have f3 := fz 3
  have f6 := fz 6
  have hok := opx_ok h.ok hn
  have o1 : IntKind.i64.wrap ((d.ops : Int) + 1) = ((d.ops + 1 : Nat) : Int) := by rw [wk_small (by omega)]; omega
  have o2 : wrap64 ((d.ops : Int) + 1) = ((d.ops + 1 : Nat) : Int) := by rw [wr_small (by omega)]; omega
  have H := Lib.hid (And.intro h hok)
  cases hf : d.off with
  | true =>
    rw [hf] at c6
    have fin : ∀ w', w' = W.setCell ⟨q, 3, none⟩ (.int .i64 ((d.ops + 1 : Nat) : Int)) → ROp base W w' q Z d.opx gv av nv gs ns := by
      rintro w' rfl
      have K : Kx (fun k => k = q) W (W.setCell ⟨q, 3, none⟩ (.int .i64 ((d.ops + 1 : Nat) : Int))) := (Kx.refl (S := fun k => k = q) W).setCell (p := ⟨q, 3, none⟩) rfl _
      have hh := H.out.1.head
      rw [hf] at hh
      exact ⟨⟨dl, refD_head H.out.1 K (Hm.heap_set_same hh) H.out.2 rfl rfl rfl rfl H.out.1.lft⟩, K⟩
    have HF := Lib.hid fin
    generalize d.ops = o at *
    clear fin h hok fz ho
    go_enter Tryd.func32, Tryd.ntmps32
    go_wp2_with fail
    go_ret
    exact ⟨rfl, HF.out _ rfl⟩
  | false =>
    rw [hf] at c6
    have hc : d.cut = true := by
      cases hc : d.cut with
      | true => rfl
      | false => exact absurd ⟨hf, fun e => by rw [hc] at e; cases e⟩ ho
    have hlt : d.left < 1 := by
      by_cases hx : d.left < 1
      · exact hx
      · exact absurd ⟨hf, fun _ => by omega⟩ ho
    rw [hc] at c4
    obtain rfl := h.lft hc
    have t1 : decide (d.left < 1) = true := decide_eq_true hlt
    have fin : ∀ w', w' = (W.setCell ⟨q, 3, none⟩ (.int .i64 ((d.ops + 1 : Nat) : Int))).setCell ⟨q, 6, none⟩ (.bool true) → ROp base W w' q Z d.opx gv av nv gs ns := by
      rintro w' rfl
      have K : Kx (fun k => k = q) W ((W.setCell ⟨q, 3, none⟩ (.int .i64 ((d.ops + 1 : Nat) : Int))).setCell ⟨q, 6, none⟩ (.bool true)) := ((Kx.refl (S := fun k => k = q) W).setCell (p := ⟨q, 3, none⟩) rfl _).setCell (p := ⟨q, 6, none⟩) rfl _
      exact ⟨⟨d.left, refD_head H.out.1 K (Hm.heap_set_same (Hm.heap_set_same H.out.1.head)) H.out.2 rfl rfl rfl rfl (fun e => rfl)⟩, K⟩
    have HF := Lib.hid fin
    generalize d.ops = o at *
    generalize d.left = lf at *
    clear fin h hok fz ho
    go_enter Tryd.func32, Tryd.ntmps32
    go_wp2_with fail
    go_ret
    exact ⟨rfl, HF.out _ rfl⟩
end
end Go.Proofs.YtkbdhhmkdjajgaaDoor
