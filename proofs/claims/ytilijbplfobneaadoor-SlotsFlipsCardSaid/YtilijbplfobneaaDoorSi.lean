/- SlotsFull -/
import Derived.Test.YtilijbplfobneaaDoorSh
namespace Go.Proofs.YtilijbplfobneaaDoor
set_option linter.unusedVariables false
set_option linter.unusedSimpArgs false
open Go.ChangeShapes Go.WideShapes Go.ChangeAt Go.RowKit

/-- A page of the law's own, without holes, of i slots. -/
def FullP (W w : World) (B z i : Nat) : Prop := ∃ C S, PageS w B C 1 1 S ∧ AllZ S z ∧ S.length = i ∧ W.heap.size ≤ B ∧ (∀ k, C = some k → W.heap.size ≤ k)
theorem putTo_gr {W0 w w' : World} {B : Nat} {C : Option Nat} {kd id : Int} {S : List Sl} (h : PutTo w B C kd id S w') (g : Gr W0 w) (hB : W0.heap.size ≤ B) (hC : ∀ k, C = some k → W0.heap.size ≤ k) : Gr W0 w' ∧ ∃ C', PageS w' B C' kd id S ∧ (∀ k, C' = some k → W0.heap.size ≤ k) := by
  obtain ⟨D, h1, h2, h3⟩ := h
  refine ⟨Kx.gr h3 g (fun k hk => ?_), some D, h1, fun k hk => ?_⟩
  · rcases hk with (rfl | hk) | hk
    · exact hB
    · exact hC k hk
    · exact Nat.le_trans g.size hk
  · obtain rfl := Option.some.inj hk
    rcases h2 with h2 | h2
    · exact hC _ h2
    · exact Nat.le_trans g.size h2
theorem c_CodeF8 (b : Nat) (w : World) (hc : w.cell? ⟨b, 2, none⟩ = some (.iface 76 (.int .i64 8))) :
    Calls Tryd.prog 43 #[.iface 84 (.pointer (some ⟨b, 0, none⟩))] w fun e w' => e = .returned (.int .i64 8) ∧ Gr w w' := c_CodeF b 8 (by decide) w hc
/-- The law's own bytes are put into its page. -/
theorem full_ins {W w0 w : World} {B z i : Nat} {k : Int} (h : FullP W w0 B z i) (g0 : Gr w0 w) (g : Gr W w) (hz : z ≤ 400) (hi : i < 60) (hf : (i + 1) * (z + 4) ≤ 496) {ad : Option Addr} (o : RowOff w (fun b => b < w0.heap.size) (.slice ad z z) (blk k z)) :
    Calls Tryd.prog 12 #[.pointer (some ⟨B, 0, none⟩), .slice ad z z] w fun e w' => e = .returned (.tuple #[.int .i64 i, .nilIface]) ∧ FullP W w' B z (i + 1) ∧ Gr W w' := by
  obtain ⟨C, S, h1, h2, h3, h4, h5⟩ := h
  have hr := re_all h2 hz (by omega) (by rw [h3]; exact hf)
  refine (p_insertS (L := blk k z) z z ad (blk_len k z).symm (by rw [blk_len]; exact hr) w (pageS_gr h1 g0) (rowOff_mono o (fun b hb => Or.inl (pageS_zlt h1 b hb)))).mono ?_
  rintro e w' ⟨rfl, hp⟩
  obtain ⟨G, C', p1, p2⟩ := putTo_gr hp g h4 h5
  have hi' := ins_all (L := blk k z) h2 (blk_len k z)
  exact ⟨by rw [lfS_all h2, h3], ⟨C', _, p1, hi'.1, by rw [hi'.2, h3], h4, p2⟩, G⟩
theorem full_no {W w : World} {B z i m cap : Nat} (h : FullP W w B z i) (hz : z ≤ 400) (hf : 60 ≤ i ∨ 496 < (i + 1) * (z + 4)) {ad : Option Addr} :
    Calls Tryd.prog 12 #[.pointer (some ⟨B, 0, none⟩), .slice ad z cap] w fun e w' => ∃ F, e = .returned (.tuple #[.int .i64 0, .iface 84 (.pointer (some ⟨F, 0, none⟩))]) ∧ w'.cell? ⟨F, 2, none⟩ = some (.iface 76 (.int .i64 8)) ∧ Gr w w' := by
  obtain ⟨C, S, h1, h2, h3, h4, h5⟩ := h
  refine (p_insert_no (k := 7) z cap ad (re_full h2 hz (by rw [h3]; exact hf)) w h1).mono ?_
  rintro e w' ⟨F, rfl, hF, g⟩
  exact ⟨F, rfl, hF.2.2, g⟩
theorem full_free {W0 W : World} {B z i P : Nat} (h : FullP W0 W B z i) (hP : P = i * (z + 4)) : Calls Tryd.prog 40 #[.pointer (some ⟨B, 0, none⟩)] W fun e w' => e = .returned (.int .i64 (496 - (P : Nat))) ∧ Gr W w' := by
  obtain ⟨C, S, h1, h2, h3, h4, h5⟩ := h
  refine (p_freeS W h1).mono ?_
  rintro e w' ⟨rfl, g⟩
  refine ⟨?_, g⟩
  rw [usS_all h2, h3, ← hP]
  congr 2
  omega
/-- One slot of the law's page is freed. -/
def HoleP (W w : World) (B z n k : Nat) : Prop := ∃ C S, PageS w B C 1 1 (delS S k) ∧ AllZ S z ∧ S.length = n ∧ W.heap.size ≤ B ∧ (∀ k, C = some k → W.heap.size ≤ k)
theorem full_del {W w : World} {B z n k : Nat} (h : FullP W w B z n) (g : Gr W w) (hk : k < n) :
    Calls Tryd.prog 16 #[.pointer (some ⟨B, 0, none⟩), .int .i64 k] w fun e w' => e = .returned .nilIface ∧ HoleP W w' B z n k ∧ Gr W w' := by
  obtain ⟨C, S, h1, h2, h3, h4, h5⟩ := h
  refine (p_deleteS k (h2 k (by omega)).1 w h1).mono ?_
  rintro e w' ⟨rfl, hp, hk'⟩
  refine ⟨rfl, ⟨C, S, hp, h2, h3, h4, h5⟩, Kx.gr hk' g (fun j hj => ?_)⟩
  rcases hj with (rfl | hj) | hj
  · exact h4
  · exact h5 j hj
  · exact Nat.le_trans g.size hj
theorem hole_ins {W w0 w : World} {B z n j : Nat} {k : Int} (h : HoleP W w0 B z n j) (g0 : Gr w0 w) (g : Gr W w) (hz : z ≤ 400) (hj : j < n) (hn : n ≤ 60) (hf : n * (z + 4) ≤ 496) {ad : Option Addr} (o : RowOff w (fun b => b < w0.heap.size) (.slice ad z z) (blk k z)) :
    Calls Tryd.prog 12 #[.pointer (some ⟨B, 0, none⟩), .slice ad z z] w fun e w' => e = .returned (.tuple #[.int .i64 j, .nilIface]) ∧ FullP W w' B z n ∧ Gr W w' := by
  obtain ⟨C, S, h1, h2, h3, h4, h5⟩ := h
  obtain ⟨e1, e2, e3, e4⟩ := re_hole (k := j) (L := blk k z) h2 hz (blk_len k z) (by omega) (by omega) (by rw [h3]; exact hf)
  refine (p_insertS (L := blk k z) z z ad (blk_len k z).symm (by rw [blk_len, e1]; exact e2) w (pageS_gr h1 g0) (rowOff_mono o (fun b hb => Or.inl (pageS_zlt h1 b hb)))).mono ?_
  rintro e w' ⟨rfl, hp⟩
  obtain ⟨G, C', p1, p2⟩ := putTo_gr hp g h4 h5
  exact ⟨by rw [e1], ⟨C', _, p1, e3, by rw [e4, h3], h4, p2⟩, G⟩
theorem full_slots {W w : World} {B z n : Nat} (h : FullP W w B z n) :
    Calls Tryd.prog 61 #[.pointer (some ⟨B, 0, none⟩)] w fun e w' => ∃ ad c, e = .returned (.slice ad n c) ∧ Gr w w' := by
  obtain ⟨C, S, h1, h2, h3, h4, h5⟩ := h
  refine (p_slotsS w h1).mono ?_
  rintro e w' ⟨ad, c, rfl, -, g⟩
  exact ⟨ad, c, by rw [idxT_all h2 _ (Nat.le_refl _), h3], g⟩
theorem fullP_gr {W a b : World} {B z i : Nat} (h : FullP W a B z i) (g : Gr a b) : FullP W b B z i := by
  obtain ⟨C, S, h1, r⟩ := h; exact ⟨C, S, pageS_gr h1 g, r⟩
theorem p_facts {P : Nat} (h : P ≤ 496) : wrap64 (P : Int) = P ∧ IntKind.i64.wrap (P : Int) = P ∧ wrap64 (496 - (P : Int)) = 496 - P ∧ IntKind.i64.wrap (496 - (P : Int)) = 496 - P :=
  ⟨wr_small (by omega), wk_small (by omega), wr_small (by omega), wk_small (by omega)⟩
end Go.Proofs.YtilijbplfobneaaDoor
