/- hull: what the document fixes; HullClose -/
import Derived.Test.YtogflfepkddbhaaDoorYq
namespace Go.Proofs.YtogflfepkddbhaaDoor
set_option linter.unusedVariables false
set_option linter.unusedSimpArgs false
open Go.ChangeShapes Go.WideShapes Go.ChangeAt Go.RowKit

def aX : Nat → Int | 1 => 2 | 2 => 1 | _ => 0
def aY : Nat → Int | 2 => 1 | 3 => 2 | _ => 0
def bX : Nat → Int | 1 => 2 | _ => 0
def bY : Nat → Int | 2 => 2 | _ => 0
theorem a_hull : Hp.HullOK (lsP 4 aX aY) 3 (fun k => (bX k, bY k)) := by
  have e : lsP 4 aX aY = [(0, 0), (2, 0), (1, 1), (0, 2)] := rfl
  rw [e]
  refine ⟨by omega, fun i hi => ?_, fun i j hi hj h => ?_, fun h => by omega, fun _ i hi => ?_, fun p hp => ?_⟩
  · match i, hi with
    | 0, _ => simp [bX, bY]
    | 1, _ => simp [bX, bY]
    | 2, _ => simp [bX, bY]
  · match i, j, hi, hj with
    | 0, 0, _, _ => rfl
    | 0, 1, _, _ => simp [bX, bY] at h
    | 0, 2, _, _ => simp [bX, bY] at h
    | 1, 0, _, _ => simp [bX, bY] at h
    | 1, 1, _, _ => rfl
    | 1, 2, _, _ => simp [bX, bY] at h
    | 2, 0, _, _ => simp [bX, bY] at h
    | 2, 1, _, _ => simp [bX, bY] at h
    | 2, 2, _, _ => rfl
  · match i, hi with
    | 0, _ => simp [Hp.SupE, Hp.cz, Hp.bw, bX, bY]
    | 1, _ => simp [Hp.SupE, Hp.cz, Hp.bw, bX, bY]
    | 2, _ => simp [Hp.SupE, Hp.cz, Hp.bw, bX, bY]
  · simp only [List.mem_cons, List.not_mem_nil, or_false] at hp
    rcases hp with rfl | rfl | rfl | rfl <;> simp [bX, bY]
theorem a_ok : (mnC 1 4 aX aY).1 = 0 := by
  rw [mnC_0 (by omega) (by omega)]
  intro k hk
  match k, hk with
  | 0, _ => rfl
  | 1, _ => rfl
  | 2, _ => rfl
  | 3, _ => rfl
theorem pts_a {w : World} {B : Nat} (c0 : w.cell? ⟨B, 0, none⟩ = some (.int .i64 0)) (c1 : w.cell? ⟨B, 1, none⟩ = some (.int .i64 0)) (c2 : w.cell? ⟨B, 2, none⟩ = some (.int .i64 2)) (c3 : w.cell? ⟨B, 3, none⟩ = some (.int .i64 0)) (c4 : w.cell? ⟨B, 4, none⟩ = some (.int .i64 1)) (c5 : w.cell? ⟨B, 5, none⟩ = some (.int .i64 1)) (c6 : w.cell? ⟨B, 6, none⟩ = some (.int .i64 0)) (c7 : w.cell? ⟨B, 7, none⟩ = some (.int .i64 2)) : Pts w (.slice (some ⟨B, 0, none⟩) 4 4) 4 aX aY := by
  refine ⟨_, 4, B, 0, rfl, Nat.le_refl _, by decide, fun _ => rfl, fun k hk => ?_⟩
  match k, hk with
  | 0, _ => exact ⟨c0, c1⟩
  | 1, _ => exact ⟨c2, c3⟩
  | 2, _ => exact ⟨c4, c5⟩
  | 3, _ => exact ⟨c6, c7⟩
theorem pts_b {w : World} {B : Nat} (c0 : w.cell? ⟨B, 0, none⟩ = some (.int .i64 0)) (c1 : w.cell? ⟨B, 1, none⟩ = some (.int .i64 0)) (c2 : w.cell? ⟨B, 2, none⟩ = some (.int .i64 2)) (c3 : w.cell? ⟨B, 3, none⟩ = some (.int .i64 0)) (c4 : w.cell? ⟨B, 4, none⟩ = some (.int .i64 0)) (c5 : w.cell? ⟨B, 5, none⟩ = some (.int .i64 2)) : Pts w (.slice (some ⟨B, 0, none⟩) 3 3) 3 bX bY := by
  refine ⟨_, 3, B, 0, rfl, Nat.le_refl _, by decide, fun _ => rfl, fun k hk => ?_⟩
  match k, hk with
  | 0, _ => exact ⟨c0, c1⟩
  | 1, _ => exact ⟨c2, c3⟩
  | 2, _ => exact ⟨c4, c5⟩
theorem pts_nil (w : World) (X Y : Nat → Int) : Pts w (.slice none 0 0) 0 X Y := ⟨none, 0, 0, 0, rfl, Nat.le_refl _, by decide, fun h => absurd h (by omega), fun k hk => absurd hk (by omega)⟩
set_option maxHeartbeats 4000000 in
set_option maxRecDepth 100000 in
theorem p21_awake (W : World) (hE : ErrT W) : Calls Tryd.prog 8 #[] W fun e w' => e = .returned (.bool true) ∧ Gr W w' := by
  have HE := Lib.hid hE
  have HN := Lib.hid (fun w => hull_no w (pts_nil w aX aY) (by rw [mnC_1 (by omega)]; decide))
  clear hE
  go_enter Tryd.func8, Tryd.ntmps8
  go_wp2_with fail
  generalize hhw0 : (W.alloc (.cells #[.int .i64 0, .int .i64 0, .int .i64 2, .int .i64 0, .int .i64 1, .int .i64 1, .int .i64 0, .int .i64 2] 30)) = w0
  have cw0_0_0 : w0.cell? ⟨W.heap.size, 0, none⟩ = some (.int .i64 0) := by subst hhw0; go_simp
  have cw0_0_1 : w0.cell? ⟨W.heap.size, 1, none⟩ = some (.int .i64 0) := by subst hhw0; go_simp
  have cw0_0_2 : w0.cell? ⟨W.heap.size, 2, none⟩ = some (.int .i64 2) := by subst hhw0; go_simp
  have cw0_0_3 : w0.cell? ⟨W.heap.size, 3, none⟩ = some (.int .i64 0) := by subst hhw0; go_simp
  have cw0_0_4 : w0.cell? ⟨W.heap.size, 4, none⟩ = some (.int .i64 1) := by subst hhw0; go_simp
  have cw0_0_5 : w0.cell? ⟨W.heap.size, 5, none⟩ = some (.int .i64 1) := by subst hhw0; go_simp
  have cw0_0_6 : w0.cell? ⟨W.heap.size, 6, none⟩ = some (.int .i64 0) := by subst hhw0; go_simp
  have cw0_0_7 : w0.cell? ⟨W.heap.size, 7, none⟩ = some (.int .i64 2) := by subst hhw0; go_simp
  have zw0_0 : W.heap.size < w0.heap.size := World.block_lt_of_cell? _ _ cw0_0_0
  have gw0 : Gr W w0 := by subst hhw0; go_grown
  clear hhw0
  go_at_call 9
  (with_reducible refine (hull_yes w0 (pts_a cw0_0_0 cw0_0_1 cw0_0_2 cw0_0_3 cw0_0_4 cw0_0_5 cw0_0_6 cw0_0_7) a_ok).mono ?_)
  rintro e w1 ⟨g, c, k, h, rfl, ho, hok, g1⟩
  obtain ⟨rfl, hu⟩ := hok.uniq a_hull
  have hp : Pts w1 (.slice (some ⟨g, 0, none⟩) 3 c) 3 (fX h) (fY h) := pts_len (ownP_blk ho).2.2.1 (ownP_pts ho)
  have HP := Lib.hid hp
  have HU := Lib.hid (show ∀ i, i < 3 → fX h i = bX i ∧ fY h i = bY i from fun i hi => ⟨congrArg Prod.fst (hu i hi), congrArg Prod.snd (hu i hi)⟩)
  have gw1 : Gr W w1 := Gr.trans gw0 g1
  clear ho hok hu hp g1 gw0
  clear cw0_0_0 cw0_0_1 cw0_0_2 cw0_0_3 cw0_0_4 cw0_0_5 cw0_0_6 cw0_0_7 zw0_0
  have s1 := gw1.size
  have HG1 := Lib.hid gw1
  go_wp2_with fail
  have g12 : Gr w1 (w1.alloc (.cells #[.int .i64 0, .int .i64 0, .int .i64 2, .int .i64 0, .int .i64 0, .int .i64 2] 30)) := (Below.refl _ _).alloc (Nat.le_refl _) _
  generalize hhw2 : (w1.alloc (.cells #[.int .i64 0, .int .i64 0, .int .i64 2, .int .i64 0, .int .i64 0, .int .i64 2] 30)) = w2 at g12 ⊢
  have cw2_0_0 : w2.cell? ⟨w1.heap.size, 0, none⟩ = some (.int .i64 0) := by subst hhw2; go_simp
  have cw2_0_1 : w2.cell? ⟨w1.heap.size, 1, none⟩ = some (.int .i64 0) := by subst hhw2; go_simp
  have cw2_0_2 : w2.cell? ⟨w1.heap.size, 2, none⟩ = some (.int .i64 2) := by subst hhw2; go_simp
  have cw2_0_3 : w2.cell? ⟨w1.heap.size, 3, none⟩ = some (.int .i64 0) := by subst hhw2; go_simp
  have cw2_0_4 : w2.cell? ⟨w1.heap.size, 4, none⟩ = some (.int .i64 0) := by subst hhw2; go_simp
  have cw2_0_5 : w2.cell? ⟨w1.heap.size, 5, none⟩ = some (.int .i64 2) := by subst hhw2; go_simp
  have zw2_0 : w1.heap.size < w2.heap.size := World.block_lt_of_cell? _ _ cw2_0_0
  have gw2 : Gr W w2 := by subst hhw2; have gg := gw1; have gs := gg.size; go_grown
  clear hhw2 gw1
  go_at_call 12
  (with_reducible refine (h_rPoints true w2 (pts_gr HP.out g12) (pts_b cw2_0_0 cw2_0_1 cw2_0_2 cw2_0_3 cw2_0_4 cw2_0_5) (by omega) ⟨fun _ => ⟨rfl, HU.out⟩, fun _ => rfl⟩).mono ?_)
  rintro e w3 ⟨rfl, g3⟩
  have gw3 : Gr W w3 := Gr.trans gw2 g3
  clear g3 gw2 g12 cw2_0_0 cw2_0_1 cw2_0_2 cw2_0_3 cw2_0_4 cw2_0_5 zw2_0 s1
  go_wp2_with fail
  go_at_call 9
  (with_reducible refine (HN.out _).mono ?_)
  rintro e w4 ⟨B, rfl, hF, g4⟩
  rw [mnC_1 (by omega)] at hF
  have gw4 : Gr W w4 := Gr.trans gw3 g4
  have HF := Lib.hid hF
  clear g4 gw3 hF
  go_wp2_with fail
  go_at_call 23
  (with_reducible refine (h_second _ _ _ (.inr ⟨_, _, rfl⟩)).mono ?_)
  rintro e w5 ⟨rfl, g5⟩
  have gw5 : Gr W w5 := Gr.trans gw4 g5
  have CI := Lib.hid (show Calls Tryd.prog 22 #[.iface 72 (.pointer (some ⟨B, 0, none⟩)), .int .i64 1, .string ⟨#[104, 117, 108, 108]⟩, .int .i64 0] w5 (fun e w' => e = .returned (.bool true) ∧ Gr w5 w') from c_AlIs_hit B hullS 0 1 (by decide) w5 (errT_gr HE.out gw5) (faultAt_gr HF.out g5))
  clear gw4 g5
  go_wp2_with fail
  go_at_call 22
  (with_reducible refine CI.out.mono ?_)
  rintro e w6 ⟨rfl, g6⟩
  go_wp2_with fail
  go_ret
  exact ⟨rfl, Gr.trans gw5 g6⟩
end Go.Proofs.YtogflfepkddbhaaDoor
