/- stage's law: awake -/
import Derived.Test.YtpomllpplpalkaaGreatDoorTi
import Derived.Test.YtpomllpplpalkaaGreatDoorWd
namespace Go.Proofs.YtpomllpplpalkaaGreatDoor
set_option linter.unusedVariables false
set_option linter.unusedSimpArgs false
open Go.ChangeShapes Go.WideShapes Go.ChangeAt Go.RowKit Go.Maps

theorem werr_0 {op : ByteArray} {w : World} {u : Value} {id : Int} (h : WErr op w u id 0) : u = .nilIface := by
  rcases h with ⟨h, -⟩ | ⟨B, x, d, -, h, -⟩
  · exact h
  · omega
theorem kIds_one {G : List CS} {l : List Int} {z : Int} (hz : i64R z) (hG : ∀ c, c ∈ G → c.id = z) (hne : G ≠ []) (h : KIds (fun z => ∃ c, c ∈ G ∧ c.id = z) l) : l = [z] := by
  refine kIds_uniq h ⟨List.pairwise_singleton _ _, fun y => ?_⟩
  constructor
  · intro hy
    obtain rfl := List.mem_singleton.1 hy
    obtain ⟨c, L, rfl⟩ := List.exists_cons_of_ne_nil hne
    exact ⟨hz, c, List.mem_cons_self, hG c List.mem_cons_self⟩
  · rintro ⟨-, c, hc, rfl⟩
    rw [hG c hc]
    exact List.mem_singleton.2 rfl
section
variable {W w : World} {N k : Nat} {Q : Nat → Nat} {M : Nat → Option Nat} {σ : Nat → Int → Option MO} {S b j : Nat} {op : Bool} {G : List CS}
theorem doTo_ok {c : CS} {e : Ending} {w' : World} (h : DoTo W N k Q σ S b j op G c e w') (hc : doC op G (σ j) c = 0) : ∃ M', e = .returned .nilIface ∧ StF W w' (N + 1) k Q M' (fun a => if a = j then apS (σ j) c.kd c.id c.o.k c.o.n c.o.X c.o.Y else σ a) S b j op (G ++ [c]) := by
  obtain ⟨u, M', rfl, hu, F⟩ := h
  rw [hc] at hu
  obtain rfl := werr_0 hu
  rw [show doS op G (σ j) c = apS (σ j) c.kd c.id c.o.k c.o.n c.o.X c.o.Y from if_pos hc, show doG op G (σ j) c = G ++ [c] from if_pos hc] at F
  exact ⟨M', rfl, F⟩
theorem chgsTo_len {w : World} {G : List CS} {e : Ending} {w' : World} (h : ChgsTo w G e w') : ∃ ad cap, e = .returned (.slice ad G.length cap) ∧ Gr w w' := by
  obtain ⟨v, L, rfl, hr, hL, g⟩ := h
  obtain ⟨ad, cap, rfl, -, -⟩ := own_any hr.own
  rw [← hL, List.length_map]
  exact ⟨ad, cap, rfl, g⟩
end
def tr3 {α : Type} (a b c : α) (j : Nat) : α := if j = 0 then a else if j = 1 then b else c
def oneO : MO := ⟨1, 1, fun _ => 1, fun _ => 1⟩
def oneS : Int → Option MO := updS (fun _ => none) 1 (some oneO)
theorem one_ap : apN (fun _ => none) 1 1 1 1 (fun _ => 1) (fun _ => 1) = 0 := by decide
theorem one_de : apN oneS 2 1 0 0 (fun _ => 0) (fun _ => 0) = 0 := by decide
theorem one_s : apS (fun _ => none) 1 1 1 1 (fun _ => 1) (fun _ => 1) = oneS := by
  unfold apS
  rw [one_ap]
  rfl
def zerS : Int → Option MO := updS oneS 1 none
theorem one_t : apS oneS 2 1 0 0 (fun _ => 0) (fun _ => 0) = zerS := by
  unfold apS
  rw [one_de]
  rfl
theorem one_i : i64R 1 := by unfold i64R; decide
set_option maxHeartbeats 4000000 in
set_option maxRecDepth 100000 in
theorem p24_awake (W : World) (hE : ErrT W) : Calls Tryz.prog 10 #[] W fun e w' => e = .returned (.bool true) ∧ Gr W w' := by
  have HE := Lib.hid hE
  clear hE
  go_enter Tryz.func10, Tryz.ntmps10
  go_wp2_with fail
  go_at_call 11
  refine (st_New0 (W := W) (w := W) (Below.refl _ _)).mono ?_
  rintro e w1 ⟨S, Q, M1, rfl, F1⟩
  have HF1 := Lib.hid F1
  clear F1
  go_wp2_with fail
  go_at_call 16
  refine (md_shape0 _).mono ?_
  rintro e w2 ⟨B, rfl, p0, p1, hB, g2⟩
  have HP := Lib.hid (pts_one p0 p1)
  have HF2 := Lib.hid (HF1.out.to g2)
  clear p0 p1 hB g2
  have AP := Lib.hid (st_Put (kk := 1) one_i (by omega) (by decide) (by decide) HF2.out HP.out)
  go_wp2_with fail
  go_at_call 15
  refine (AP.out).mono ?_
  intro e w3 h3
  obtain ⟨M3, rfl, F3⟩ := doTo_ok h3 (show doC true [] (fun _ => none) ⟨1, 1, ⟨1, 1, fun _ => 1, fun _ => 1⟩⟩ = 0 from one_ap)
  have HF3 : Hid (StF W w3 1 3 Q M3 (tr3 (fun _ => none) (fun _ => none) oneS) S 1 2 true [putC 1 oneO]) := Lib.hid (F3.as (fun i hi => by
    rcases (by omega : i = 0 ∨ i = 1 ∨ i = 2) with rfl | rfl | rfl
    · rfl
    · rfl
    · exact one_s))
  have AN := Lib.hid (st_Net HF3.out (by decide))
  have AD := Lib.hid (fun w' (g : Gr w3 w') => st_Del one_i (by omega) (by decide) (HF3.out.to g))
  clear F3 h3 AP
  go_wp2_with fail
  go_at_call 22
  refine (AN.out).mono ?_
  rintro e w4 ⟨l, hl, -, h4⟩
  obtain ⟨ad4, cp4, rfl, g4⟩ := chgsTo_len h4
  obtain rfl := kIds_one one_i (by simp [putC]) (by simp) hl
  have e4 : (netL (tr3 (fun _ => none) (fun _ => none) oneS 1) (tr3 (fun _ => none) (fun _ => none) oneS 2) [1]).length = 1 := by decide
  rw [e4]
  have HG4 := Lib.hid g4
  clear h4 hl g4 e4
  go_wp2_with fail
  go_at_call 21
  refine (AD.out _ HG4.out).mono ?_
  intro e w5 h5
  obtain ⟨M5, rfl, F5⟩ := doTo_ok h5 (show doC true [putC 1 oneO] oneS (delC 1) = 0 from one_de)
  have HF5 : Hid (StF W w5 2 3 Q M5 (tr3 (fun _ => none) (fun _ => none) zerS) S 1 2 true [putC 1 oneO, delC 1]) := Lib.hid (F5.as (fun i hi => by
    rcases (by omega : i = 0 ∨ i = 1 ∨ i = 2) with rfl | rfl | rfl
    · rfl
    · rfl
    · exact one_t))
  have AN2 := Lib.hid (st_Net HF5.out (by decide))
  have AC := Lib.hid (fun w' (g : Gr w5 w') => st_Changes (HF5.out.to g) (by decide))
  have AE := Lib.hid (fun w' (g : Gr w5 w') => st_End (HF5.out.to g))
  clear F5 h5 AD
  go_wp2_with fail
  go_at_call 22
  refine (AN2.out).mono ?_
  rintro e w6 ⟨l, hl, -, h6⟩
  obtain ⟨ad6, cp6, rfl, g6⟩ := chgsTo_len h6
  obtain rfl := kIds_one one_i (by simp [putC, delC]) (by simp) hl
  have e6 : (netL (tr3 (fun _ => none) (fun _ => none) zerS 1) (tr3 (fun _ => none) (fun _ => none) zerS 2) [1]).length = 0 := by decide
  rw [e6]
  have HG6 := Lib.hid g6
  clear h6 hl g6 e6
  go_wp2_with fail
  go_at_call 17
  refine (AC.out _ HG6.out).mono ?_
  intro e w7 h7
  obtain ⟨ad7, cp7, rfl, g7⟩ := chgsTo_len h7
  rw [show ([putC 1 oneO, delC 1] : List CS).length = 2 from rfl]
  have HG7 := Lib.hid (Gr.trans HG6.out g7)
  clear h7 g7
  go_wp2_with fail
  go_at_call 13
  refine (AE.out _ HG7.out).mono ?_
  rintro e w8 ⟨u8, rfl, hu8, F8⟩
  obtain rfl := werr_0 hu8
  have AE2 := Lib.hid (st_End F8)
  clear F8 hu8
  go_wp2_with fail
  go_at_call 13
  refine (AE2.out).mono ?_
  rintro e w9 ⟨u9, rfl, hu9, F9⟩
  have AI := Lib.hid (c_AlIs_werr w9 (errT_gr HE.out F9.fam.gr) (show WErr stageS w9 u9 0 11 from hu9))
  have HG9 := Lib.hid F9.fam.gr
  clear F9 hu9
  go_wp2_with fail
  go_at_call 14
  refine (AI.out).mono ?_
  rintro e w10 ⟨rfl, g10⟩
  go_wp2_with fail
  go_ret
  exact ⟨rfl, Gr.trans HG9.out g10⟩
end Go.Proofs.YtpomllpplpalkaaGreatDoor
