/- disk: a law's own disk; what the document fixes -/
import Derived.Test.YtkbdhhmkdjajgaaDoorDh
namespace Go.Proofs.YtkbdhhmkdjajgaaDoor
set_option linter.unusedVariables false
set_option linter.unusedSimpArgs false
open Go.ChangeShapes Go.WideShapes Go.ChangeAt Go.RowKit Go.Maps

/-- A disk of the law's own: all of its blocks are new. -/
def LawD (W w : World) (p : Nat) (d : Dk) : Prop := ∃ g bm M, DiskS w p g bm M d ∧ ∀ k, dkZ p g bm M k → W.heap.size ≤ k
theorem lawD_gr {W a b : World} {p : Nat} {d : Dk} (h : LawD W a p d) (g : Gr a b) : LawD W b p d := by
  obtain ⟨q, bm, M, h1, h2⟩ := h; exact ⟨q, bm, M, diskS_gr h1 g, h2⟩
theorem lawD_lt {W a : World} {p : Nat} {d : Dk} (h : LawD W a p d) : p < a.heap.size := by
  obtain ⟨q, bm, M, h1, h2⟩ := h; exact diskS_lt h1
theorem lawD_ok {W a : World} {p : Nat} {d : Dk} (h : LawD W a p d) : d.ok := by
  obtain ⟨q, bm, M, h1, h2⟩ := h; exact h1.ok
theorem lawD_new {W w : World} (n : Nat) (h1 : 1 ≤ n) (h2 : n ≤ 8192) (g : Gr W w) :
    Calls Tryd.prog 6 #[.int .i64 n] w fun e w' => ∃ p, e = .returned (.tuple #[.pointer (some ⟨p, 0, none⟩), .nilIface]) ∧ LawD W w' p (dk0 n (List.replicate (n * 64) 0)) ∧ Gr W w' := by
  refine (d_new n h1 h2 w).mono ?_
  rintro e w' ⟨p, q, bm, rfl, h3, h4, h5⟩
  exact ⟨p, rfl, ⟨q, bm, none, h4, fun k hk => Nat.le_trans g.size (h3 k hk)⟩, Gr.trans g h5⟩
theorem lawD_write {W w0 w : World} {p k : Nat} {d : Dk} (h : LawD W w0 p d) (g0 : Gr w0 w) (G : Gr W w) (hk : k < d.n) (ho : d.on) (hn : d.ops < 1000000) {L : List UInt8} (hL : L.length = 64) {ad : Option Addr} {cp : Nat} (hR : RowOff w (fun b => b < w0.heap.size) (.slice ad 64 cp) L) :
    Calls Tryd.prog 11 #[.pointer (some ⟨p, 0, none⟩), .int .i64 k, .slice ad 64 cp] w fun e w' => e = .returned .nilIface ∧ LawD W w' p (d.opd.wr k L) ∧ Gr W w' := by
  obtain ⟨q, bm, M, h1, h2⟩ := h
  refine (d_write k hk ho hn hL ad cp w (diskS_gr h1 g0) (rowOff_mono hR (fun b hb => Or.inl (diskS_zlt h1 b hb)))).mono ?_
  rintro e w' ⟨rfl, M', h3, h4, h5⟩
  refine ⟨rfl, ⟨q, bm, M', h3, fun j hj => ?_⟩, Kx.gr h5 G (fun j hj => ?_)⟩
  · rcases hj with h | h | h | h
    · exact h2 j (Or.inl h)
    · exact h2 j (Or.inr (Or.inl h))
    · exact h2 j (Or.inr (Or.inr (Or.inl h)))
    · rcases h4 with rfl | ⟨i, rfl, hi⟩
      · exact h2 j (Or.inr (Or.inr (Or.inr h)))
      · obtain rfl := Option.some.inj h
        exact Nat.le_trans G.size hi
  · rcases hj with h | h | h | h
    · exact h2 j (Or.inl h)
    · exact h2 j (Or.inr (Or.inr (Or.inr h)))
    · exact h2 j (Or.inr (Or.inr (Or.inl h)))
    · exact Nat.le_trans G.size h
theorem lawD_crash {W w : World} {p : Nat} {d : Dk} (h : LawD W w p d) (G : Gr W w) (keep : List Bool) {kv : Value} (torn : Int) (hK : Bools w kv keep) (hkl : keep.length ≤ 1000000) :
    Calls Tryd.prog 20 #[.pointer (some ⟨p, 0, none⟩), kv, .int .i64 torn] w fun e w' => ∃ p', e = .returned (.pointer (some ⟨p', 0, none⟩)) ∧ LawD W w' p' (dk0 d.n (crG d (crM keep torn) d.ord.length)) ∧ Gr w w' := by
  obtain ⟨q, bm, M, h1, h2⟩ := h
  refine (d_crash keep kv torn w h1 hK hkl).mono ?_
  rintro e w' ⟨p', g', bm', rfl, h3, h4, h5⟩
  exact ⟨p', rfl, ⟨g', bm', none, h4, fun j hj => Nat.le_trans G.size (h3 j hj)⟩, h5⟩
theorem lawD_read {W w : World} {p k : Nat} {d : Dk} (h : LawD W w p d) (hk : k < d.n) :
    Calls Tryd.prog 15 #[.pointer (some ⟨p, 0, none⟩), .int .i64 k] w fun e w' => ∃ ad c, e = .returned (.tuple #[.slice ad 64 c, .nilIface]) ∧ Row w' (.slice ad 64 c) (d.read k) ∧ Gr w w' := by
  obtain ⟨q, bm, M, h1, h2⟩ := h
  refine (d_read k hk w h1).mono ?_
  rintro e w' ⟨ad, c, rfl, o, g⟩
  exact ⟨ad, c, rfl, row_own o, g⟩
theorem dk0_on (n : Nat) (L : List UInt8) : (dk0 n L).on := ⟨rfl, fun h => by cases h⟩
theorem dk0_read (n : Nat) (L : List UInt8) (k : Nat) : (dk0 n L).read k = sec L k := by unfold Dk.read; rw [if_neg (by exact List.not_mem_nil)]; rfl
theorem sec_zeros {n k : Nat} (h : k < n) : sec (List.replicate (n * 64) (0 : UInt8)) k = List.replicate 64 0 := by
  refine List.ext_getElem? fun j => ?_
  rw [sec_get?, List.getElem?_replicate, List.getElem?_replicate]
  by_cases h1 : j < 64
  · rw [if_pos h1, if_pos h1, if_pos (by omega)]
  · rw [if_neg h1, if_neg h1]
theorem bytes_same {L : List UInt8} {u v : Value} (W : World) (hu : Row W u L) (hv : Row W v L) (hl : L.length ≤ 1000000000) : Calls Tryd.prog 17 #[u, v] W fun e w' => e = .returned (.bool true) ∧ Gr W w' := by
  have h := c_Bytes W hu hv hl
  rw [decide_eq_true rfl] at h
  exact h
theorem make64 : ∃ o : Obj, (∀ w : World, (Instr.makeSlice 37 (.int .i64 64) (.int .i64 64)).run Tryd.prog w = .ok (.slice (some ⟨w.heap.size, 0, none⟩) 64 64) (w.alloc o)) ∧ ∀ w : World, Own (w.alloc o) w.heap.size (.slice (some ⟨w.heap.size, 0, none⟩) 64 64) (List.replicate 64 0) :=
  ⟨.cells (Array.replicate 64 (.int .u8 0)) 5, fun w => by kernel_rfl, fun w => by
    have := World.ownsRow_lit (base := w.heap.size) (e := 5) (size := 1) w (Array.replicate 64 (.int .u8 0)) 64 (Nat.le_refl _) (by decide) (by simp)
    unfold Own
    rw [List.length_replicate, List.map_replicate]
    simpa [bv] using this⟩
theorem bools_nil (w : World) : Bools w (.slice none 0 0) [] := ⟨none, 0, 0, 0, rfl, Nat.le_refl _, by decide, fun h => absurd h (by simp), fun j hj => absurd hj (by simp)⟩
theorem bools_one {w : World} {B : Nat} (b : Bool) (h : w.cell? ⟨B, 0, none⟩ = some (.bool b)) : Bools w (.slice (some ⟨B, 0, none⟩) 1 1) [b] :=
  ⟨some ⟨B, 0, none⟩, 1, B, 0, rfl, Nat.le_refl _, by decide, fun _ => rfl, fun j hj => by
    obtain rfl : j = 0 := by simpa using hj
    exact h⟩
set_option maxHeartbeats 1000000 in
set_option maxRecDepth 100000 in
theorem p10_awake (W : World) : Calls Tryd.prog 5 #[] W fun e w' => e = .returned (.bool true) ∧ Gr W w' := by
  obtain ⟨i0, hi0, hz0, hz1, hz2⟩ := info_parts (P := Tryd.prog) (e := 5) (z := .int .u8 0) (size := 1) (bytes := 1) (by kernel_rfl)
  have HI := Lib.hid (And.intro hi0 (And.intro hz0 (And.intro hz1 hz2)))
  clear hi0 hz0 hz1 hz2
  have A1 : ∀ w, Calls Tryd.prog 9 #[.int .i64 64, .int .i64 1] w fun e w' => e = .returned (.slice (some ⟨w.heap.size, 0, none⟩) 64 64) ∧ Own w' w.heap.size (.slice (some ⟨w.heap.size, 0, none⟩) 64 64) (blk 1 64) ∧ Gr w w' := fun w => c_Block 64 (by decide) 1 (by decide) w
  have A0 : ∀ w, Gr W w → Calls Tryd.prog 6 #[.int .i64 2] w fun e w' => ∃ p, e = .returned (.tuple #[.pointer (some ⟨p, 0, none⟩), .nilIface]) ∧ LawD W w' p (dk0 2 (List.replicate (2 * 64) 0)) ∧ Gr W w' := fun w g => lawD_new 2 (by decide) (by decide) g
  obtain ⟨mo, hM, hMO⟩ := make64
  have HMO := Lib.hid hMO
  clear hMO
  have H0 := Lib.hid A0
  have H1 := Lib.hid A1
  clear A0 A1
  go_enter Tryd.func5, Tryd.ntmps5
  go_wp2_with fail
  go_at_call 6
  refine (H0.out _ (by go_grown)).mono ?_
  rintro e w1 ⟨p, rfl, hd, G1⟩
  have HD1 := Lib.hid hd
  clear hd
  go_wp2_with fail
  go_at_call 9
  refine (H1.out _).mono ?_
  rintro e w2 ⟨rfl, o2, g2⟩
  have G2 : Gr W w2 := Gr.trans G1 g2
  have AW : Calls Tryd.prog 11 #[.pointer (some ⟨p, 0, none⟩), .int .i64 0, .slice (some ⟨w1.heap.size, 0, none⟩) 64 64] w2 fun e w' => e = .returned .nilIface ∧ LawD W w' p ((dk0 2 (List.replicate (2 * 64) 0)).opd.wr 0 (blk 1 64)) ∧ Gr W w' :=
    lawD_write (k := 0) HD1.out g2 G2 (by decide) (dk0_on _ _) (by decide) (blk_len 1 64) (rowOff_own o2 (fun k hk => hk))
  have HW := Lib.hid AW
  clear o2 g2 AW
  go_wp2_with fail
  go_at_call 11
  refine (HW.out).mono ?_
  rintro e w3 ⟨rfl, hd, G3⟩
  obtain ⟨d1, ed⟩ : ∃ d1, d1 = (dk0 2 (List.replicate (2 * 64) 0)).opd.wr 0 (blk 1 64) := ⟨_, rfl⟩
  rw [← ed] at hd
  have hok := lawD_ok hd
  have E1 : Hid ((dk0 2 (crG d1 (crM [true] (-1)) 1)).read 0 = blk 1 64) := Lib.hid (by
    rw [dk0_read, (crG_sec hok (crM [true] (-1)) 1 (by rw [ed]; decide) 0 (by rw [ed]; decide)).1 0 (by decide) (by rw [ed]; rfl), ed]
    rfl)
  have E2 : Hid ((dk0 2 (crG d1 (crM [] (-1)) 1)).read 0 = List.replicate 64 0) := Lib.hid (by
    rw [dk0_read, (crG_sec hok (crM [] (-1)) 1 (by rw [ed]; decide) 0 (by rw [ed]; decide)).1 0 (by decide) (by rw [ed]; rfl), ed]
    exact sec_zeros (n := 2) (by decide))
  have EN : d1.n = 2 := by rw [ed]; rfl
  have EO : d1.ord.length = 1 := by rw [ed]; rfl
  have AC1 : ∀ w, Gr w3 w → ∀ B, w.cell? ⟨B, 0, none⟩ = some (.bool true) → Calls Tryd.prog 20 #[.pointer (some ⟨p, 0, none⟩), .slice (some ⟨B, 0, none⟩) 1 1, .int .i64 (-1)] w fun e w' => ∃ p', e = .returned (.pointer (some ⟨p', 0, none⟩)) ∧ LawD W w' p' (dk0 2 (crG d1 (crM [true] (-1)) 1)) ∧ Gr w w' := fun w g B hB => by
    have := lawD_crash (lawD_gr hd g) (Gr.trans G3 g) [true] (-1) (bools_one true hB) (by decide)
    rw [EN, EO] at this
    exact this
  have AC2 : ∀ w, Gr w3 w → Calls Tryd.prog 20 #[.pointer (some ⟨p, 0, none⟩), .slice none 0 0, .int .i64 (-1)] w fun e w' => ∃ p', e = .returned (.pointer (some ⟨p', 0, none⟩)) ∧ LawD W w' p' (dk0 2 (crG d1 (crM [] (-1)) 1)) ∧ Gr w w' := fun w g => by
    have := lawD_crash (lawD_gr hd g) (Gr.trans G3 g) [] (-1) (bools_nil w) (by decide)
    rw [EN, EO] at this
    exact this
  have HC1 := Lib.hid AC1
  have HC2 := Lib.hid AC2
  clear AC1 AC2 hd hok ed EN EO HW HD1
  go_wp2_with fail
  go_at_call 20
  refine (HC1.out _ (by go_grown) _ (by go_simp)).mono ?_
  rintro e w4 ⟨p4, rfl, hd4, g4⟩
  have G4 : Gr w3 w4 := Gr.trans (by go_grown) g4
  have HR4 := Lib.hid (lawD_read (k := 0) hd4 (by show 0 < 2; decide))
  clear hd4 g4
  go_wp2_with fail
  go_at_call 15
  refine (HR4.out).mono ?_
  rintro e w5 ⟨ad5, c5, rfl, r5, g5⟩
  have G5 : Gr w3 w5 := Gr.trans G4 g5
  rw [E1.out] at r5
  have HB5 := Lib.hid r5
  clear r5 g5 HR4
  go_wp2_with fail
  go_at_call 20
  refine (HC2.out _ G5).mono ?_
  rintro e w6 ⟨p6, rfl, hd6, g6⟩
  have HR6 := Lib.hid (lawD_read (k := 0) hd6 (by show 0 < 2; decide))
  clear hd6
  go_wp2_with fail
  go_at_call 15
  refine (HR6.out).mono ?_
  rintro e w7 ⟨ad7, c7, rfl, r7, g7⟩
  rw [E2.out] at r7
  have g57 : Gr w5 w7 := Gr.trans g6 g7
  have HB7 := Lib.hid r7
  clear r7 g6 g7 HR6
  go_wp2_with fail
  go_at_call 9
  refine (H1.out _).mono ?_
  rintro e w8 ⟨rfl, o8, g8⟩
  have AB1 := Lib.hid (bytes_same (L := blk 1 64) w8 (row_gr HB5.out (Gr.trans g57 g8)) (row_own o8) (by rw [blk_len]; decide))
  have g58 : Gr w7 w8 := g8
  clear o8 g8
  go_wp2_with fail
  go_at_call 17
  refine (AB1.out).mono ?_
  rintro e w9 ⟨rfl, g9⟩
  have g79 : Gr w7 w9 := Gr.trans g58 g9
  clear g9 AB1 g58
  go_wp2_with fail
  have AB2 := Lib.hid (bytes_same (L := List.replicate 64 0) (w9.alloc mo) (row_gr HB7.out (Gr.trans g79 (by go_grown))) (row_own (HMO.out w9)) (by rw [List.length_replicate]; decide))
  go_at_call 17
  refine (AB2.out).mono ?_
  rintro e wb ⟨rfl, gb⟩
  have GG : Gr W wb := Gr.trans (Gr.trans G3 G5) (Gr.trans (Gr.trans g57 g79) (Gr.trans (by go_grown) gb))
  clear gb AB2
  go_wp2_with fail
  go_ret
  exact ⟨rfl, GG⟩
end Go.Proofs.YtkbdhhmkdjajgaaDoor
