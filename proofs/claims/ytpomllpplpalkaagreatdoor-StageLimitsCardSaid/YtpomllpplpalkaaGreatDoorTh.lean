/- stage: Put, Del -/
import Derived.Test.YtpomllpplpalkaaGreatDoorTg
namespace Go.Proofs.YtpomllpplpalkaaGreatDoor
set_option linter.unusedVariables false
set_option linter.unusedSimpArgs false
open Go.ChangeShapes Go.WideShapes Go.ChangeAt Go.RowKit Go.Maps

theorem res_chg {F : Func} {p : Tmp} {tmps : Array Value} {w : World} {N : Nat} {a b c : Int} {u : Value} (hF : F.results = #[.cell p 50]) (h2 : tmps.getD p undef = .pointer (some ⟨N, 0, none⟩)) (c0 : w.cell? ⟨N, 0, none⟩ = some (.int .i64 a)) (c1 : w.cell? ⟨N, 1, none⟩ = some (.int .i64 b)) (c2 : w.cell? ⟨N, 2, none⟩ = some (.int .i64 c)) (c3 : w.cell? ⟨N, 3, none⟩ = some u) :
    (results F tmps).run Tryz.prog w = .ok (.agg #[.int .i64 a, .int .i64 b, .int .i64 c, u]) w := by
  have g2 : tmps[p]?.getD undef = .pointer (some ⟨N, 0, none⟩) := by simpa using h2
  simp [results, hF, go_sem, g2, c0, c1, c2, c3]
set_option maxRecDepth 100000 in
theorem st_put (id k : Int) (ad : Option Addr) (n c : Nat) (W : World) : Calls Tryz.prog 60 #[.int .i64 id, .agg #[.int .i64 k, .slice ad n c]] W fun e w' => e = .returned (.agg #[.int .i64 1, .int .i64 id, .int .i64 k, .slice ad n c]) ∧ Gr W w' := by
  go_enter Tryz.func60, Tryz.ntmps60
  go_wp2_with fail
  refine bodyPost_ret (res_chg (p := 4) (N := W.heap.size + 1) (a := 1) (b := id) (c := k) (u := .slice ad n c) rfl (by first | rfl | simp) (by go_simp) (by go_simp) (by go_simp) (by go_simp)) rfl ⟨rfl, by go_grown⟩
set_option maxRecDepth 100000 in
theorem st_del (id : Int) (W : World) : Calls Tryz.prog 63 #[.int .i64 id] W fun e w' => e = .returned (.agg #[.int .i64 2, .int .i64 id, .int .i64 0, .slice none 0 0]) ∧ Gr W w' := by
  go_enter Tryz.func63, Tryz.ntmps63
  go_wp2_with fail
  refine bodyPost_ret (res_chg (p := 2) (N := W.heap.size) (a := 2) (b := id) (c := 0) (u := .slice none 0 0) rfl (by first | rfl | simp) (by go_simp) (by go_simp) (by go_simp) (by go_simp)) rfl ⟨rfl, by go_grown⟩
set_option maxRecDepth 100000 in
theorem st_do_nil (kd id kk : Int) (ad : Option Addr) (n c : Nat) (W : World) : Calls Tryz.prog 59 #[.pointer none, .agg #[.int .i64 kd, .int .i64 id, .int .i64 kk, .slice ad n c]] W fun e w' => ∃ u, e = .returned u ∧ WErr stageS w' u id 11 ∧ Gr W w' := by
  go_enter Tryz.func59, Tryz.ntmps59
  go_wp2_with fail
  go_at_call 56
  refine ((st_ended_nil _)).mono ?_
  rintro e w1 ⟨rfl, hw1⟩
  have cw1_0_0 : w1.cell? ⟨W.heap.size, 0, none⟩ = some (.int .i64 kd) := cell_gr hw1 (by go_simp)
  have cw1_0_1 : w1.cell? ⟨W.heap.size, 1, none⟩ = some (.int .i64 id) := cell_gr hw1 (by go_simp)
  have cw1_0_2 : w1.cell? ⟨W.heap.size, 2, none⟩ = some (.int .i64 kk) := cell_gr hw1 (by go_simp)
  have cw1_0_3 : w1.cell? ⟨W.heap.size, 3, none⟩ = some (.slice ad n c) := cell_gr hw1 (by go_simp)
  have zw1_0 : W.heap.size < w1.heap.size := World.block_lt_of_cell? _ _ cw1_0_0
  have gw1 : Gr W w1 := Gr.trans (by go_grown) hw1
  clear hw1
  go_wp2_with fail
  go_at_call 57
  refine (md_fNew stageS id 11 _).mono ?_
  rintro e w2 ⟨F, rfl, hf, g2⟩
  have HF := Lib.hid (And.intro (faultAt_werr (k := 11) (by decide) hf) (Gr.trans gw1 g2))
  clear hf g2
  go_wp2_with fail
  go_ret
  exact ⟨_, rfl, HF.out.1, HF.out.2⟩
set_option maxRecDepth 100000 in
theorem st_Put_nil {id k : Int} {n : Nat} {X Y : Nat → Int} {v : Value} (hn : n ≤ 1000000) (W : World) (hp : Pts W v n X Y) : Calls Tryz.prog 15 #[.pointer none, .int .i64 id, .agg #[.int .i64 k, v]] W fun e w' => ∃ u, e = .returned u ∧ WErr stageS w' u id 11 ∧ Gr W w' := by
  have AC := Lib.hid (fun w (g : Gr W w) => c_rCloneA (k := k) hn w (pts_gr hp g))
  obtain ⟨ad, cap, _, _, rfl, -⟩ := hp
  go_enter Tryz.func15, Tryz.ntmps15
  go_wp2_with fail
  go_at_call 61
  refine (AC.out _ (by go_grown)).mono ?_
  rintro e w1 ⟨u, rfl, hu, g1⟩
  obtain ⟨bd, bc, _, _, rfl, -⟩ := hu.1
  have G1 : Gr W w1 := Gr.trans (by go_grown) g1
  have HG1 := Lib.hid G1
  clear hu g1 G1
  go_wp2_with fail
  go_at_call 60
  refine (st_put id k bd n bc _).mono ?_
  rintro e w2 ⟨rfl, g2⟩
  go_wp2_with fail
  go_at_call 59
  refine (st_do_nil 1 id k bd n bc _).mono ?_
  rintro e w3 ⟨u3, rfl, hu3, g3⟩
  have HE := Lib.hid (And.intro hu3 (Gr.trans HG1.out (Gr.trans g2 g3)))
  clear hu3 g3 g2
  go_wp2_with fail
  go_ret
  exact ⟨_, rfl, HE.out.1, HE.out.2⟩
section
variable {W w : World} {N k : Nat} {Q : Nat → Nat} {M : Nat → Option Nat} {σ : Nat → Int → Option MO} {S b j : Nat} {op : Bool} {G : List CS}
set_option maxRecDepth 100000 in
theorem st_Put {id kk : Int} {n : Nat} {X Y : Nat → Int} {v : Value} (hi : i64R id) (hN : N < 1000000) (hG : G.length ≤ 1000) (hn : n ≤ 1000000) (F : StF W w N k Q M σ S b j op G) (hp : Pts w v n X Y) : Calls Tryz.prog 15 #[.pointer (some ⟨S, 0, none⟩), .int .i64 id, .agg #[.int .i64 kk, v]] w fun e w' => DoTo W N k Q σ S b j op G ⟨1, id, ⟨kk, n, X, Y⟩⟩ e w' := by
  have AC := Lib.hid (fun w' (g : Gr w w') => c_rCloneA (k := kk) hn w' (pts_gr hp g))
  have HF := Lib.hid F
  have HH := Lib.hid (And.intro hi (And.intro hN hG))
  obtain ⟨ad, cap, _, _, rfl, -⟩ := hp
  clear F hi hN hG
  go_enter Tryz.func15, Tryz.ntmps15
  go_wp2_with fail
  go_at_call 61
  refine (AC.out _ (by go_grown)).mono ?_
  rintro e w1 ⟨u, rfl, hu, g1⟩
  have hu2 : PtsF w1 W.heap.size u n X Y := ptsF_le hu (by have := HF.out.fam.gr.size; simp; omega)
  obtain ⟨bd, bc, _, _, rfl, -⟩ := hu.1
  have G1 : Gr w w1 := Gr.trans (by go_grown) g1
  have HG1 := Lib.hid (And.intro G1 hu2)
  clear hu hu2 g1 G1
  go_wp2_with fail
  go_at_call 60
  refine (st_put id kk bd n bc _).mono ?_
  rintro e w2 ⟨rfl, g2⟩
  have AD := Lib.hid (st_do (kd := 1) (id := id) (kk := kk) HH.out.1 HH.out.2.1 (HF.out.to (Gr.trans HG1.out.1 g2)) HH.out.2.2 (ptsF_gr HG1.out.2 g2))
  clear g2
  go_wp2_with fail
  go_at_call 59
  refine (AD.out).mono ?_
  rintro e w3 ⟨u3, M3, rfl, hu3, F3⟩
  have HE := Lib.hid (And.intro hu3 F3)
  clear hu3 F3 AD
  go_wp2_with fail
  go_ret
  exact ⟨_, M3, rfl, HE.out.1, HE.out.2⟩
set_option maxRecDepth 100000 in
theorem st_Del {id : Int} (hi : i64R id) (hN : N < 1000000) (hG : G.length ≤ 1000) (F : StF W w N k Q M σ S b j op G) : Calls Tryz.prog 21 #[.pointer (some ⟨S, 0, none⟩), .int .i64 id] w fun e w' => DoTo W N k Q σ S b j op G (delC id) e w' := by
  have HF := Lib.hid F
  have HH := Lib.hid (And.intro hi (And.intro hN hG))
  clear F hi hN hG
  go_enter Tryz.func21, Tryz.ntmps21
  go_wp2_with fail
  go_at_call 63
  refine (st_del id _).mono ?_
  rintro e w2 ⟨rfl, g2⟩
  have AD := Lib.hid (st_do (kd := 2) (id := id) (kk := 0) (v := .slice none 0 0) (n := 0) (X := fun _ => 0) (Y := fun _ => 0) HH.out.1 HH.out.2.1 (HF.out.to g2) HH.out.2.2 ⟨pts_any0 _ _, fun h => absurd h (Nat.lt_irrefl _)⟩)
  clear g2
  go_wp2_with fail
  go_at_call 59
  refine (AD.out).mono ?_
  rintro e w3 ⟨u3, M3, rfl, hu3, F3⟩
  have HE := Lib.hid (And.intro hu3 F3)
  clear hu3 F3 AD
  go_wp2_with fail
  go_ret
  exact ⟨_, M3, rfl, HE.out.1, HE.out.2⟩
end
end Go.Proofs.YtpomllpplpalkaaGreatDoor
