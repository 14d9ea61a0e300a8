/- disk: copies of slices; Len, lasting, New, Off, Ops, Cut -/
import Derived.Test.YtbjckoelgpbaaaaGreatDoorDa
import Derived.Test.YtbjckoelgpbaaaaGreatDoorBk
namespace Go.Proofs.YtbjckoelgpbaaaaGreatDoor
set_option linter.unusedVariables false
set_option linter.unusedSimpArgs false
open Go.ChangeShapes Go.WideShapes Go.ChangeAt Go.RowKit Go.Maps

set_option maxRecDepth 100000 in
/-- A slice is copied. -/
theorem c_sClone {L : List UInt8} {v : Value} (W : World) (h : Row W v L) (hl : L.length ≤ 1000000) :
    Calls Tryz.prog 85 #[v] W fun e w' => ∃ ad c, e = .returned (.slice ad L.length c) ∧ Own w' W.heap.size (.slice ad L.length c) L ∧ (v ≠ .slice none 0 0 → True) ∧ Gr W w' := by
  obtain ⟨ad, m, cap, hv⟩ : ∃ ad m cap, v = .slice ad m cap := by obtain ⟨ad, cap, _, _, e, _⟩ := h; exact ⟨ad, _, cap, e⟩
  have hm : L.length = m := by obtain ⟨_, _, _, _, e, _⟩ := h; rw [hv] at e; cases e; rfl
  subst hv
  cases ad with
  | none =>
    have hE := fun w => eqNilN m cap w
    have hL : L = [] := by
      obtain ⟨ad, cap, B, off, e, h1, h2, h3, h4⟩ := h
      rcases Nat.eq_zero_or_pos L.length with h0 | h0
      · exact List.eq_nil_of_length_eq_zero h0
      · have := h3 h0; subst this; cases e
    subst hL
    clear h
    go_enter Tryz.func85, Tryz.ntmps85
    go_wp2_with fail
    go_ret
    exact ⟨none, 0, rfl, own_nil _ _, fun _ => trivial, by go_grown⟩
  | some a =>
    have O1 : ∀ (w : World), Own (w.alloc (.cells #[] 5)) w.heap.size (.slice (some ⟨w.heap.size, 0, none⟩) 0 0) [] := fun w =>
      World.ownsRow_lit (base := w.heap.size) (e := 5) (size := 1) w #[] 0 (Nat.le_refl _) (by decide) (by simp)
    have hE := fun w => eqNilA a m cap w
    have H1 := Lib.hid O1
    clear O1
    go_enter Tryz.func85, Tryz.ntmps85
    go_wp2_with (at_builtin; go_loud ((refine wpList_app rfl (.tmp 5) (.tmp 6) rfl W.heap.size (.slice (some ⟨W.heap.size, 0, none⟩) 0 0) (.slice (some a) m cap) [] L rfl (H1.out W) rfl (row_gr h (by go_grown)) (by simp; omega) (by simp) ?_); intro x2 w2 o2 g2; (have G2 : Gr W w2 := g2.gr (by go_grown) (fun k hk => (World.ownsRow.lt (H1.out W) k hk).1))))
    have o3 : Own w2 W.heap.size x2 L := by simpa using o2
    obtain ⟨ad, c, rfl⟩ := own_form o3
    go_wp2_with fail
    go_ret
    exact ⟨ad, c, rfl, o3, fun _ => trivial, by go_grown⟩
theorem sec_get (L : List UInt8) (k j : Nat) (h : j < (sec L k).length) : (sec L k)[j] = L[k * 64 + j]'(by unfold sec at h; rw [List.length_take, List.length_drop] at h; omega) := by
  simp [sec]
/-- What the head says of how great a disk is. -/
theorem d_len_core (p g n cap : Nat) (hn : n ≤ 8192) (W : World) (c0 : W.cell? ⟨p, 0, none⟩ = some (.slice (some ⟨g, 0, none⟩) (n * 64) cap)) : Calls Tryz.prog 35 #[.pointer (some ⟨p, 0, none⟩)] W fun e w' => e = .returned (.int .i64 n) ∧ Gr W w' := by
  have hB := World.block_lt_of_cell? _ _ c0
  have e0 : Int.tdiv ((n * 64 : Nat) : Int) 64 = n := by
    have : Int.tdiv ((n * 64 : Nat) : Int) ((64 : Nat) : Int) = ((n * 64 / 64 : Nat) : Int) := rfl
    rw [Nat.mul_div_cancel _ (by decide)] at this
    exact this
  have e1 : wrap64 (n : Int) = n := wr_small (by omega)
  have e2 : IntKind.i64.wrap (n : Int) = n := wk_small (by omega)
  have e3 : ((n * 64 : Nat) : Int) = (n : Int) * 64 := by omega
  have e4 : Int.tdiv ((n : Int) * 64) 64 = n := by rw [← e3]; exact e0
  have e5 : wrap64 (Int.tdiv ((n : Int) * 64) 64) = n := by rw [e4]; exact e1
  have e6 : IntKind.i64.wrap (Int.tdiv ((n : Int) * 64) 64) = n := by rw [e4]; exact e2
  have e7 : IntKind.i64.wrap (Int.tdiv ((n * 64 : Nat) : Int) 64) = n := by rw [e0]; exact e2
  clear e3
  go_enter Tryz.func35, Tryz.ntmps35
  go_wp2_with fail
  go_ret
  exact ⟨by simp_all, by go_grown⟩
theorem d_len_nil (W : World) : Calls Tryz.prog 35 #[.pointer none] W fun e w' => e = .returned (.int .i64 0) ∧ Gr W w' := by
  go_enter Tryz.func35, Tryz.ntmps35
  go_wp2_with fail
  go_ret
  exact ⟨rfl, by go_grown⟩
set_option maxRecDepth 100000 in
theorem d_lasting_core (p g n cap at_ : Nat) (hn : n ≤ 8192) (ha : at_ < n) (hc : n * 64 ≤ cap) (hc2 : (cap : Int) ≤ 9223372036854775807) (W : World) (c0 : W.cell? ⟨p, 0, none⟩ = some (.slice (some ⟨g, 0, none⟩) (n * 64) cap)) :
    Calls Tryz.prog 86 #[.pointer (some ⟨p, 0, none⟩), .int .i64 at_] W fun e w' => e = .returned (.slice (some ⟨g, at_ * 64, none⟩) 64 (cap - at_ * 64)) ∧ Gr W w' := by
  have hB := World.block_lt_of_cell? _ _ c0
  have e1 : wrap64 ((at_ : Int) * 64) = ((at_ * 64 : Nat) : Int) := by rw [show ((at_ : Int) * 64) = ((at_ * 64 : Nat) : Int) by omega]; exact wr_small (by omega)
  have e2 : wrap64 ((at_ : Int) + 1) = ((at_ + 1 : Nat) : Int) := by rw [show ((at_ : Int) + 1) = ((at_ + 1 : Nat) : Int) by omega]; exact wr_small (by omega)
  have e3 : wrap64 (((at_ + 1 : Nat) : Int) * 64) = ((at_ * 64 + 64 : Nat) : Int) := by rw [show (((at_ + 1 : Nat) : Int) * 64) = ((at_ * 64 + 64 : Nat) : Int) by omega]; exact wr_small (by omega)
  generalize hA : at_ * 64 = a at *
  go_enter Tryz.func86, Tryz.ntmps86
  go_wp2_with fail
  have e9 : (at_ + 1) * 64 - a = 64 := by omega
  rw [e9]
  go_ret
  exact ⟨rfl, by go_grown⟩
section
variable {p g bm : Nat} {M : Option Nat} {d : Dk}
theorem diskS_head {W : World} (H : DiskS W p g bm M d) : ∃ cap ov, DiskAt W p (.slice (some ⟨g, 0, none⟩) (d.n * 64) cap) bm ov d.ops d.cut d.left d.off ∧ Own W 0 (.slice (some ⟨g, 0, none⟩) (d.n * 64) cap) d.good ∧
    W.ownsRow 0 3 1 ov d.ord.length (d.ord.map fun (k : Nat) => Value.int .i64 (k : Int)) ∧ ov.ownBlock = M ∧ d.n * 64 ≤ cap ∧ (cap : Int) ≤ 9223372036854775807 := by
  obtain ⟨cap, ov, h2, h3, h4, h5⟩ := H.head
  refine ⟨cap, ov, h2, h3, h4, h5, ?_⟩
  rcases h3.2 with ⟨e, _⟩ | ⟨g', cap', cur, e, hb, hh, hn, hc, hs, ht⟩
  · cases e
  · simp only [Value.slice.injEq] at e
    obtain ⟨-, e1, rfl⟩ := e
    rw [H.ok.len] at hn
    exact ⟨hn, by unfold maxLen at hc; omega⟩
theorem d_len (W : World) (H : DiskS W p g bm M d) : Calls Tryz.prog 35 #[.pointer (some ⟨p, 0, none⟩)] W fun e w' => e = .returned (.int .i64 (d.n : Nat)) ∧ Gr W w' := by
  obtain ⟨cap, ov, h, -⟩ := H.head
  exact d_len_core p g d.n cap H.ok.n2 W h.c0
theorem d_lasting (k : Nat) (hk : k < d.n) (W : World) (H : DiskS W p g bm M d) : ∃ c, Row W (.slice (some ⟨g, k * 64, none⟩) 64 c) (sec d.good k) ∧ Calls Tryz.prog 86 #[.pointer (some ⟨p, 0, none⟩), .int .i64 k] W fun e w' => e = .returned (.slice (some ⟨g, k * 64, none⟩) 64 c) ∧ Gr W w' := by
  obtain ⟨cap, ov, h, ho, h4, h5, hc, hc2⟩ := diskS_head H
  refine ⟨cap - k * 64, ?_, d_lasting_core p g d.n cap k H.ok.n2 hk hc hc2 W h.c0⟩
  have hl : (sec d.good k).length = 64 := by unfold sec; rw [List.length_take, List.length_drop, H.ok.len]; omega
  refine ⟨some ⟨g, k * 64, none⟩, cap - k * 64, g, k * 64, by rw [hl], by omega, by omega, fun _ => rfl, fun j hj => ?_⟩
  have hg : d.n * 64 = d.good.length := H.ok.len.symm
  have hc' := World.ownsRow.cellAt (by rw [hg] at ho; exact ho) (k * 64 + j) (by omega)
  rw [hc', List.getElem?_map, List.getElem?_eq_getElem (by omega)]
  rw [sec_get d.good k j hj]
  rfl
/-- The head alone has turned. -/
theorem diskS_head_turn {a b : World} {d' : Dk} {S : Nat → Prop} (H : DiskS a p g bm M d) (k : Kx S a b) (hS : ∀ k, S k → k = p ∨ (¬ dkZ p g bm M k ∧ a.heap.size ≤ k)) (hok : d'.ok)
    (e1 : d'.n = d.n) (e2 : d'.good = d.good) (e3 : d'.ord = d.ord) (e4 : d'.F = d.F) (hd : ∀ gv ov, DiskAt a p gv bm ov d.ops d.cut d.left d.off → DiskAt b p gv bm ov d'.ops d'.cut d'.left d'.off) : DiskS b p g bm M d' := by
  obtain ⟨h1, ⟨cap, ov, h2, h3, h4, h5⟩, h6, h7⟩ := H
  obtain ⟨n1, n2, n3, n4, n5, n6⟩ := h7
  have np : ∀ j, S j → j = p ∨ (j ≠ g ∧ j ≠ bm ∧ M ≠ some j) := fun j hj => by
    rcases hS j hj with h | ⟨h, -⟩
    · exact Or.inl h
    · exact Or.inr ⟨fun e => h (Or.inr (Or.inl e)), fun e => h (Or.inr (Or.inr (Or.inl e))), fun e => h (Or.inr (Or.inr (Or.inr e)))⟩
  refine ⟨hok, ⟨cap, ov, ?_, ?_, ?_, h5⟩, ?_, ⟨n1, n2, n3, n4, n5, n6⟩⟩
  · rw [e1]; exact hd _ _ h2
  · rw [e1, e2]
    exact rowOwn_kxS h3 k (fun j hj hs => by
      obtain rfl : g = j := by simpa [Value.ownBlock] using hj
      rcases np g hs with h | h
      · exact n1 h.symm
      · exact h.1 rfl)
  · rw [e3]
    exact rowOwn_kxS h4 k (fun j hj hs => by
      rw [h5] at hj
      rcases np j hs with h | h
      · subst h; exact n4 hj
      · exact h.2.2 hj)
  · have := waits_turn (Z' := dkZ p g bm M) h6 k (fun hs => by
      rcases np bm hs with h | h
      · exact n2 h.symm
      · exact h.2.1 rfl) (fun j hj => by
      rcases hS j hj with h | h
      · exact Or.inl (Or.inl h)
      · exact Or.inr h.2) (fun j hj => Or.inl hj)
    unfold Waits at this ⊢
    rw [e3, e4]
    exact this
end
end Go.Proofs.YtbjckoelgpbaaaaGreatDoor
