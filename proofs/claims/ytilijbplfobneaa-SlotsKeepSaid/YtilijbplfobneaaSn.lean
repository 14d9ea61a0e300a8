/- SlotsKeep: the loop's state (towards it) -/
import Derived.Test.YtilijbplfobneaaSm
import Derived.Test.YtilijbplfobneaaSi
namespace Go.Proofs.Ytilijbplfobneaa
set_option linter.unusedVariables false
set_option linter.unusedSimpArgs false
open Go.ChangeShapes Go.WideShapes Go.ChangeAt Go.RowKit

theorem make60s : ∃ o : Obj, (∀ w : World, (Instr.makeSlice 29 (.int .i64 60) (.int .i64 60)).run Try.prog w = .ok (.slice (some ⟨w.heap.size, 0, none⟩) 60 60) (w.alloc o)) ∧ ∀ w : World, (w.alloc o).ownsRow 0 31 1 (.slice (some ⟨w.heap.size, 0, none⟩) 60 60) 60 (List.replicate 60 (.slice none 0 0)) :=
  ⟨.cells (Array.replicate 60 (.slice none 0 0)) 31, fun w => by kernel_rfl, fun w => by
    have := World.ownsRow_lit (base := 0) (e := 31) (size := 1) w (Array.replicate 60 (.slice none 0 0)) 60 (Nat.zero_le _) (by decide) (by simp)
    simpa using this⟩
theorem make60b : ∃ o : Obj, (∀ w : World, (Instr.makeSlice 30 (.int .i64 60) (.int .i64 60)).run Try.prog w = .ok (.slice (some ⟨w.heap.size, 0, none⟩) 60 60) (w.alloc o)) ∧ ∀ w : World, (w.alloc o).ownsRow 0 4 1 (.slice (some ⟨w.heap.size, 0, none⟩) 60 60) 60 ((List.replicate 60 false).map Value.bool) :=
  ⟨.cells (Array.replicate 60 (.bool false)) 4, fun w => by kernel_rfl, fun w => by
    have := World.ownsRow_lit (base := 0) (e := 4) (size := 1) w (Array.replicate 60 (.bool false)) 60 (Nat.zero_le _) (by decide) (by simp)
    simpa using this⟩
theorem c_RoundS (z : Int) (m : Nat) (hm : 0 < m) (hm2 : m ≤ 1000000) (h : -9223372036854775808 ≤ z ∧ z ≤ 9223372036854775807) (w : World) :
    Calls Try.prog 7 #[.int .i64 z, .int .i64 (m : Nat)] w fun e w' => ∃ k : Nat, k < m ∧ e = .returned (.int .i64 (k : Nat)) ∧ Gr w w' := by
  refine (c_RoundE z h.1 h.2 m hm hm2 w).mono ?_
  rintro e w' ⟨rfl, g⟩
  have h1 := Int.emod_nonneg z (show (m : Int) ≠ 0 by omega)
  have h2 := Int.emod_lt_of_pos z (show (0 : Int) < m by omega)
  exact ⟨(z % m).toNat, by omega, by rw [Int.toNat_of_nonneg h1], g⟩
/-- What the loop holds. -/
def KeepX (W w : World) (B H Cw : Nat) : Prop :=
  ∃ C S hs xs wf vL L, KeepS W w B C S H hs Cw xs wf vL L ∧ hs.length = 60 ∧ (∀ j, j < 60 → hs.getD j false = (S.getD j none).isSome ∧ wf j = S.getD j none) ∧ usS S ≤ 512
theorem keepX_gr {W w w' : World} {B H Cw : Nat} (h : KeepX W w B H Cw) (g : Gr w w') : KeepX W w' B H Cw := by
  obtain ⟨C, S, hs, xs, wf, vL, L, h1, h2⟩ := h
  exact ⟨C, S, hs, xs, wf, vL, L, keep_gr h1 g, h2⟩
theorem keepX_start {W w : World} {B : Nat} {o1 o2 : Obj} (hp : PageS w B none 0 0 []) (hB : W.heap.size ≤ B) (G : Gr W w) (h1 : (w.alloc o1).ownsRow 0 31 1 (.slice (some ⟨w.heap.size, 0, none⟩) 60 60) 60 (List.replicate 60 (.slice none 0 0)))
    (h2 : ((w.alloc o1).alloc o2).ownsRow 0 4 1 (.slice (some ⟨(w.alloc o1).heap.size, 0, none⟩) 60 60) 60 ((List.replicate 60 false).map Value.bool)) : KeepX W ((w.alloc o1).alloc o2) B (w.alloc o1).heap.size w.heap.size := by
  have hz := pageS_zlt hp
  have sz : (w.alloc o1).heap.size = w.heap.size + 1 := by simp
  have g1 : Gr w (w.alloc o1) := (Below.refl _ _).alloc (Nat.le_refl _) _
  have g2 : Gr (w.alloc o1) ((w.alloc o1).alloc o2) := (Below.refl _ _).alloc (Nat.le_refl _) _
  have G2 := G.size
  refine ⟨none, [], List.replicate 60 false, _, fun _ => none, .slice none 0 0, [], ⟨pageS_gr hp (Gr.trans g1 g2), fun k hk => ?_, h2, rowOwn_gr h1 g2, fun v hv => ⟨none, 0, 0, (List.mem_replicate.1 hv).2⟩, fun j X hj e => (by cases e), rowOff_own (own_nil _ w.heap.size) hz, ⟨fun e => by have := hz _ e; omega, by omega⟩, ⟨fun e => by have := hz _ e; omega, by omega⟩, by omega⟩, List.length_replicate .., fun j hj => ⟨?_, rfl⟩, by decide⟩
  · rcases hk with rfl | hk
    · exact hB
    · cases hk
  · rw [List.getD_eq_getElem?_getD, List.getElem?_replicate, if_pos hj]; rfl
end Go.Proofs.Ytilijbplfobneaa
