/- model: Items of a map of one object -/
import Derived.Test.YtenngnlphecdeaaGreatDoorWf
import Derived.Test.YtenngnlphecdeaaGreatDoorEa
namespace Go.Proofs.YtenngnlphecdeaaGreatDoor
set_option linter.unusedVariables false
set_option linter.unusedSimpArgs false
open Go.ChangeShapes Go.WideShapes Go.ChangeAt Go.RowKit Go.Maps

theorem own_row3W {w : World} {base e : Nat} {v a b c : Value} (h : w.ownsRow base e 3 v 1 [a, b, c]) : ∃ D cap, v = .slice (some ⟨D, 0, none⟩) 1 cap ∧ 1 ≤ cap ∧ (cap : Int) ≤ 9223372036854775807 ∧ base ≤ D ∧ w.cell? ⟨D, 0, none⟩ = some a ∧ w.cell? ⟨D, 1, none⟩ = some b ∧ w.cell? ⟨D, 2, none⟩ = some c := by
  rcases h.2 with ⟨_, h0⟩ | ⟨g, cap, cur, rfl, hb, hg, hn', hc, hs, ht⟩
  · cases h0
  · exact ⟨g, cap, rfl, hn', by unfold maxLen at hc; omega, hb, h.cellAt 0 (by decide), h.cellAt 1 (by decide), h.cellAt 2 (by decide)⟩
set_option maxHeartbeats 2000000 in
set_option maxRecDepth 100000 in
theorem md_items_1 {Q m id n c B : Nat} {k : Int} {X Y : Nat → Int} (hid : id < 1000000) (hn : 0 < n) (hn2 : n ≤ 1000) (W : World) (c0 : W.cell? ⟨Q, 0, none⟩ = some (.map (some m))) (hm : W.ownsMap Tryz.prog 3 heldE m 1 (DO id (.agg #[.int .i64 k, .slice (some ⟨B, 0, none⟩) n c]))) (hp : Pts W (.slice (some ⟨B, 0, none⟩) n c) n X Y) :
    Calls Tryz.prog 11 #[.pointer (some ⟨Q, 0, none⟩)] W fun e w' => ∃ L lc B' c', e = .returned (.slice (some ⟨L, 0, none⟩) 1 lc) ∧ 1 ≤ lc ∧ w'.cell? ⟨L, 0, none⟩ = some (.int .i64 (id : Nat)) ∧ w'.cell? ⟨L, 1, none⟩ = some (.int .i64 k) ∧ w'.cell? ⟨L, 2, none⟩ = some (.slice (some ⟨B', 0, none⟩) n c') ∧ (Pts w' (.slice (some ⟨B', 0, none⟩) n c') n X Y ∧ Fr2 w' B') ∧ W.heap.size ≤ L ∧ W.heap.size ≤ B' ∧ L ≠ B' ∧ Gr W w' := by
  obtain ⟨i0, hi0, hz0, hz1, hz2⟩ := info_parts (P := Tryz.prog) (e := 33) (z := .agg #[.int .i64 0, .int .i64 0, .slice none 0 0]) (size := 3) (bytes := 40) (by kernel_rfl)
  have HI := Lib.hid (And.intro hi0 (And.intro hz0 (And.intro hz1 hz2)))
  clear hi0 hz0 hz1 hz2
  have zQ := World.block_lt_of_cell? _ _ c0
  have AI := Lib.hid (fun w (g : Gr W w) => md_ids_1 w (cell_gr g c0) (ownsMap_kx hm (Kx.of_gr (S := fun _ => False) g) (fun h => h)))
  have AC := Lib.hid (fun w (g : Gr W w) => c_rClone (k := k) hn hn2 w (pts_gr hp g))
  have HM := Lib.hid hm
  clear hm hp
  have HO0 := Lib.hid (World.ownsRow_lit (base := W.heap.size) (e := 33) (size := 3) W #[] 0 (Nat.le_refl _) (by decide) (by simp))
  go_enter Tryz.func11, Tryz.ntmps11
  go_wp2_with fail
  go_at_call 20
  refine (AI.out _ (by go_grown)).mono ?_
  rintro e w1 ⟨LL, lc, rfl, hL, h1, h2, g1⟩
  have G1 : Gr W w1 := Gr.trans (by go_grown) g1
  have q1 := cell_gr G1 c0
  have O1 := Lib.hid (rowOwn_gr HO0.out g1)
  have M1 := Lib.hid (ownsMap_kx HM.out (Kx.of_gr (S := fun _ => False) G1) (fun h => h))
  have zL := World.block_lt_of_cell? _ _ hL
  have zq := World.block_lt_of_cell? _ _ q1
  have hs0 : (W.alloc (.cells #[] 33)).heap.size = W.heap.size + 1 := by simp
  have s1 := g1.size
  rw [hs0] at s1
  have HG1 := Lib.hid G1
  clear g1 G1 hs0 c0 zQ
  go_wp2_with fail
  refine wp_loop_rounds 2 ?_
  rw [rounds_succ]
  go_wp2_with (at_lookup; (refine wpList_look1_hit _ rfl _ _ 46 rfl 3 27 KI Tryz.underlying46 (zeroO _) m 1 (DO id (.agg #[.int .i64 k, .slice (some ⟨B, 0, none⟩) n c])) rfl M1.out _ (ik id) rfl (ik_of hid) _ (dO_at _ _) ?_))
  go_at_call 17
  refine (AC.out _ HG1.out).mono ?_
  rintro e w3 ⟨B', c', rfl, hp, hB, g3⟩
  have s3 := g3.size
  have zB' : B' < w3.heap.size := by
    obtain ⟨ad, cap, B1, off, e, p1, p2, p3, p4⟩ := hp.1
    simp only [Value.slice.injEq, true_and] at e
    obtain ⟨rfl, rfl⟩ := e
    have e3 := Option.some.inj (p3 hn)
    simp only [Addr.mk.injEq, and_true] at e3
    obtain ⟨rfl, rfl⟩ := e3
    exact World.block_lt_of_cell? _ _ (p4 0 hn).1
  have HP := Lib.hid (And.intro hp (And.intro hB (Gr.trans HG1.out g3)))
  have HG3 := Lib.hid g3
  have b0 := cell_gr g3 hL
  clear hp g3 hB
  go_wp2_with (at_builtin; go_loud ((refine wpList_append_own2 _ rfl (.tmp 14) (.tmp 24) 41 rfl W.heap.size 33 i0 (.agg #[.int .i64 0, .int .i64 0, .slice none 0 0]) 3 40 Tryz.underlying41 HI.out.1 HI.out.2.1 HI.out.2.2.1 HI.out.2.2.2 rfl (by decide) (.slice (some ⟨W.heap.size, 0, none⟩) 0 0) 0 [] rfl (rowOwn_gr O1.out (Gr.trans HG3.out ((Below.refl _ _).alloc (Nat.le_refl _) _))) ⟨w3.heap.size, 0, none⟩ 1 1 [.int .i64 (id : Nat), .int .i64 k, .slice (some ⟨B', 0, none⟩) n c'] rfl rfl (cells_new _ _ _ _ rfl) (by intro u hu; simp only [List.mem_cons, List.not_mem_nil, or_false] at hu; rcases hu with rfl | rfl | rfl <;> rfl) (by unfold maxLen; omega) (by omega) (by simp; omega) ?_); intro x5 w5 o5 g5; (have HO5 := Lib.hid (And.intro o5 g5)); clear o5 g5))
  rw [rounds_succ]
  go_wp2_with fail
  go_ret
  obtain ⟨o5, g5⟩ := HO5.out
  obtain ⟨hp, hB, G3⟩ := HP.out
  obtain ⟨L, lc5, rfl, a1, a2, a3, a4, a5, a6⟩ := own_row3W o5
  have hL5 := g5.2 L rfl
  have Gal : Gr w3 (w3.alloc (.cells #[.int .i64 (id : Nat), .int .i64 k, .slice (some ⟨B', 0, none⟩) n c'] 33)) := (Below.refl _ _).alloc (Nat.le_refl _) _
  have hsal : (w3.alloc (.cells #[.int .i64 (id : Nat), .int .i64 k, .slice (some ⟨B', 0, none⟩) n c'] 33)).heap.size = w3.heap.size + 1 := by simp
  rw [hsal] at hL5
  have hL6 : L = W.heap.size ∨ w3.heap.size + 1 ≤ L := by
    rcases hL5 with h | h
    · exact Or.inl (Option.some.inj h).symm
    · exact Or.inr h
  have G5 : Gr W w5 := g5.gr (Gr.trans G3 Gal) (fun q hq => Nat.le_of_eq (Option.some.inj hq))
  have K5 : Kx (fun q => q = W.heap.size) w3 w5 := (Kx.of_gr Gal).trans ((kx_grown g5).mono (fun q hq => (Option.some.inj hq).symm))
  exact ⟨L, lc5, B', c', rfl, a1, a4, a5, a6, ⟨pts_kxW hn hp.1 K5 (by omega), fr2_kx hp.2 K5 (by omega)⟩, by omega, by omega, by omega, G5⟩
end Go.Proofs.YtenngnlphecdeaaGreatDoor
