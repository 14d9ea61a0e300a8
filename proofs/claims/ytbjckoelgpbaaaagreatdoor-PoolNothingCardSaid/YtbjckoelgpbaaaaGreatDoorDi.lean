/- disk: a law's own disk; what the document fixes -/
import Derived.Test.YtbjckoelgpbaaaaGreatDoorDh
namespace Go.Proofs.YtbjckoelgpbaaaaGreatDoor
set_option linter.unusedVariables false
set_option linter.unusedSimpArgs false
open Go.ChangeShapes Go.WideShapes Go.ChangeAt Go.RowKit Go.Maps

/-- A disk of the law's own: all of its blocks are new. -/
def LawD (W w : World) (p : Nat) (d : Dk) : Prop := ∃ g bm M, DiskS w p g bm M d ∧ ∀ k, dkZ p g bm M k → W.heap.size ≤ k
theorem lawD_gr {W a b : World} {p : Nat} {d : Dk} (h : LawD W a p d) (g : Gr a b) : LawD W b p d := by
  obtain ⟨q, bm, M, h1, h2⟩ := h; exact ⟨q, bm, M, diskS_gr h1 g, h2⟩
theorem lawD_lt {W a : World} {p : Nat} {d : Dk} (h : LawD W a p d) : p < a.heap.size := by
  obtain ⟨q, bm, M, h1, h2⟩ := h; exact diskS_lt h1
theorem lawD_ok {W a : World} {p : Nat} {d : Dk} (h : LawD W a p d) : d.ok := by
  obtain ⟨q, bm, M, h1, h2⟩ := h; exact h1.ok
theorem lawD_new {W w : World} (n : Nat) (h1 : 1 ≤ n) (h2 : n ≤ 8192) (g : Gr W w) :
    Calls Tryz.prog 75 #[.int .i64 n] w fun e w' => ∃ p, e = .returned (.tuple #[.pointer (some ⟨p, 0, none⟩), .nilIface]) ∧ LawD W w' p (dk0 n (List.replicate (n * 64) 0)) ∧ Gr W w' := by
  refine (d_new n h1 h2 w).mono ?_
  rintro e w' ⟨p, q, bm, rfl, h3, h4, h5⟩
  exact ⟨p, rfl, ⟨q, bm, none, h4, fun k hk => Nat.le_trans g.size (h3 k hk)⟩, Gr.trans g h5⟩
theorem lawD_write {W w0 w : World} {p k : Nat} {d : Dk} (h : LawD W w0 p d) (g0 : Gr w0 w) (G : Gr W w) (hk : k < d.n) (ho : d.on) (hn : d.ops < 1000000) {L : List UInt8} (hL : L.length = 64) {ad : Option Addr} {cp : Nat} (hR : RowOff w (fun b => b < w0.heap.size) (.slice ad 64 cp) L) :
    Calls Tryz.prog 69 #[.pointer (some ⟨p, 0, none⟩), .int .i64 k, .slice ad 64 cp] w fun e w' => e = .returned .nilIface ∧ LawD W w' p (d.opd.wr k L) ∧ Gr W w' := by
  obtain ⟨q, bm, M, h1, h2⟩ := h
  refine (d_write k hk ho hn hL ad cp w (diskS_gr h1 g0) (rowOff_mono hR (fun b hb => Or.inl (diskS_zlt h1 b hb)))).mono ?_
  rintro e w' ⟨rfl, M', h3, h4, h5⟩
  refine ⟨rfl, ⟨q, bm, M', h3, fun j hj => ?_⟩, Kx.gr h5 G (fun j hj => ?_)⟩
  · rcases hj with h | h | h | h
    · exact h2 j (Or.inl h)
    · exact h2 j (Or.inr (Or.inl h))
    · exact h2 j (Or.inr (Or.inr (Or.inl h)))
    · rcases h4 with rfl | ⟨i, rfl, hi⟩
      · exact h2 j (Or.inr (Or.inr (Or.inr h)))
      · obtain rfl := Option.some.inj h
        exact Nat.le_trans G.size hi
  · rcases hj with h | h | h | h
    · exact h2 j (Or.inl h)
    · exact h2 j (Or.inr (Or.inr (Or.inr h)))
    · exact h2 j (Or.inr (Or.inr (Or.inl h)))
    · exact Nat.le_trans G.size h
theorem lawD_read {W w : World} {p k : Nat} {d : Dk} (h : LawD W w p d) (hk : k < d.n) :
    Calls Tryz.prog 58 #[.pointer (some ⟨p, 0, none⟩), .int .i64 k] w fun e w' => ∃ ad c, e = .returned (.tuple #[.slice ad 64 c, .nilIface]) ∧ Row w' (.slice ad 64 c) (d.read k) ∧ Gr w w' := by
  obtain ⟨q, bm, M, h1, h2⟩ := h
  refine (d_read k hk w h1).mono ?_
  rintro e w' ⟨ad, c, rfl, o, g⟩
  exact ⟨ad, c, rfl, row_own o, g⟩
theorem dk0_on (n : Nat) (L : List UInt8) : (dk0 n L).on := ⟨rfl, fun h => by cases h⟩
theorem dk0_read (n : Nat) (L : List UInt8) (k : Nat) : (dk0 n L).read k = sec L k := by unfold Dk.read; rw [if_neg (by exact List.not_mem_nil)]; rfl
theorem sec_zeros {n k : Nat} (h : k < n) : sec (List.replicate (n * 64) (0 : UInt8)) k = List.replicate 64 0 := by
  refine List.ext_getElem? fun j => ?_
  rw [sec_get?, List.getElem?_replicate, List.getElem?_replicate]
  by_cases h1 : j < 64
  · rw [if_pos h1, if_pos h1, if_pos (by omega)]
  · rw [if_neg h1, if_neg h1]
theorem make64 : ∃ o : Obj, (∀ w : World, (Instr.makeSlice 109 (.int .i64 64) (.int .i64 64)).run Tryz.prog w = .ok (.slice (some ⟨w.heap.size, 0, none⟩) 64 64) (w.alloc o)) ∧ ∀ w : World, Own (w.alloc o) w.heap.size (.slice (some ⟨w.heap.size, 0, none⟩) 64 64) (List.replicate 64 0) :=
  ⟨.cells (Array.replicate 64 (.int .u8 0)) 5, fun w => by kernel_rfl, fun w => by
    have := World.ownsRow_lit (base := w.heap.size) (e := 5) (size := 1) w (Array.replicate 64 (.int .u8 0)) 64 (Nat.le_refl _) (by decide) (by simp)
    unfold Own
    rw [List.length_replicate, List.map_replicate]
    simpa [bv] using this⟩
theorem bools_nil (w : World) : Bools w (.slice none 0 0) [] := ⟨none, 0, 0, 0, rfl, Nat.le_refl _, by decide, fun h => absurd h (by simp), fun j hj => absurd hj (by simp)⟩
theorem bools_one {w : World} {B : Nat} (b : Bool) (h : w.cell? ⟨B, 0, none⟩ = some (.bool b)) : Bools w (.slice (some ⟨B, 0, none⟩) 1 1) [b] :=
  ⟨some ⟨B, 0, none⟩, 1, B, 0, rfl, Nat.le_refl _, by decide, fun _ => rfl, fun j hj => by
    obtain rfl : j = 0 := by simpa using hj
    exact h⟩
end Go.Proofs.YtbjckoelgpbaaaaGreatDoor
