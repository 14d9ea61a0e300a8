/- StageLimits: the walk -/
import Derived.Test.YtpomllpplpalkaaGreatDoorTj
import Derived.Test.YtpomllpplpalkaaGreatDoorTa
namespace Go.Proofs.YtpomllpplpalkaaGreatDoor
set_option linter.unusedVariables false
set_option linter.unusedSimpArgs false
open Go.ChangeShapes Go.WideShapes Go.ChangeAt Go.RowKit Go.Maps

def lo (i : Nat) : MO := ⟨shK (i % 4), shN (i % 4), gsX (i % 4) i i ((i + 1 : Nat) : Int), gsY (i % 4) i i ((i + 1 : Nat) : Int)⟩
def limS (d : Nat) : Int → Option MO := fun y => if 0 ≤ y ∧ y < d then some (lo y.toNat) else none
theorem limS_0 : limS 0 = fun _ => none := funext fun y => if_neg (by omega)
theorem limS_none (d : Nat) : limS d d = none := if_neg (by omega)
theorem limS_succ (d : Nat) : updS (limS d) d (some (lo d)) = limS (d + 1) := funext fun y => by
  unfold updS
  by_cases e : y = d
  · subst e
    rw [if_pos rfl]
    unfold limS
    rw [if_pos (by omega)]
    rfl
  · rw [if_neg e]
    unfold limS
    by_cases h : 0 ≤ y ∧ y < d
    · rw [if_pos h, if_pos (by omega)]
    · rw [if_neg h, if_neg (by omega)]
theorem limS_ids (d : Nat) (hd : d ≤ 1000) : Ids (limS d) ((List.range d).map Int.ofNat) := by
  refine ⟨?_, fun z => ?_⟩
  · refine List.pairwise_map.2 ((List.pairwise_lt_range (n := d)).imp (fun {a b} h => ?_))
    show (a : Int) < (b : Int)
    omega
  · unfold limS i64R
    constructor
    · intro h
      obtain ⟨a, ha, rfl⟩ := List.mem_map.1 h
      have := List.mem_range.1 ha
      have e : Int.ofNat a = (a : Int) := rfl
      rw [e, if_pos (by omega)]
      exact ⟨by omega, rfl⟩
    · rintro ⟨-, h⟩
      by_cases e : 0 ≤ z ∧ z < d
      · exact List.mem_map.2 ⟨z.toNat, List.mem_range.2 (by omega), by show ((z.toNat : Nat) : Int) = z; omega⟩
      · rw [if_neg e] at h; cases h
def limD (z : Int) (i : Nat) : Nat := if 0 ≤ z then min (min i 32) z.toNat else min i 32
def limO (z : Int) (i : Nat) : Bool := !decide (0 ≤ z ∧ z < i)
theorem lo_put (i : Nat) (hi : i < 50) : chgC 1 (i : Nat) (lo i).k (lo i).n (lo i).X (lo i).Y = 0 ∧ (lo i).n ≤ 4 ∧ ∀ W : World, Calls Tryz.prog 16 #[.int .i64 (i : Nat), .int .i64 (i : Nat), .int .i64 (i : Nat), .int .i64 (i : Nat)] W fun e w' => ∃ B, e = .returned (.agg #[.int .i64 (lo i).k, .slice (some ⟨B, 0, none⟩) (lo i).n (lo i).n]) ∧ Pts w' (.slice (some ⟨B, 0, none⟩) (lo i).n (lo i).n) (lo i).n (lo i).X (lo i).Y ∧ W.heap.size ≤ B ∧ Gr W w' := by
  obtain ⟨q, m, hq, e1, e2, h1, h2⟩ := gs_put (i : Int) i i i i ⟨by omega, by omega⟩ (by omega) (by omega) (by omega) (by omega) (by omega) (by omega) (by omega) (by omega)
  obtain rfl : q = i % 4 := by omega
  obtain rfl : m = i + 1 := by omega
  exact ⟨h1, (shN_pos hq).2, h2⟩
theorem lim_ap (d : Nat) (hd : d < 50) : apN (limS d) 1 d (lo d).k (lo d).n (lo d).X (lo d).Y = 0 := by
  unfold apN
  rw [if_neg (fun h => h (lo_put d hd).1), if_pos rfl, limS_none]
  rfl
theorem lim_aps (d : Nat) (hd : d < 50) : apS (limS d) 1 d (lo d).k (lo d).n (lo d).X (lo d).Y = limS (d + 1) := by
  unfold apS
  rw [if_neg (by rw [lim_ap d hd]; decide), if_pos rfl]
  exact limS_succ d
theorem lim_do {W : World} {N : Nat} {Q : Nat → Nat} {S : Nat} {z : Int} {i : Nat} {G : List CS} {e : Ending} {w' : World} (hi : i < 50) (hG : G.length = limD z i)
    (h : DoTo W N 3 Q (tr3 (fun _ => none) (fun _ => none) (limS (limD z i))) S 1 2 (limO z (i + 1)) G ⟨1, i, lo i⟩ e w') :
    ∃ u M' G', e = .returned u ∧ WErr stageS w' u i (if 0 ≤ z ∧ z ≤ i then 11 else if 32 ≤ i then 13 else 0) ∧ G'.length = limD z (i + 1) ∧ StF W w' (N + 1) 3 Q M' (tr3 (fun _ => none) (fun _ => none) (limS (limD z (i + 1)))) S 1 2 (limO z (i + 1)) G' := by
  obtain ⟨u, M', rfl, hu, F⟩ := h
  have hs : (tr3 (fun _ => none) (fun _ => none) (limS (limD z i)) : Nat → Int → Option MO) 2 = limS (limD z i) := rfl
  rw [hs] at hu F
  by_cases h1 : 0 ≤ z ∧ z ≤ i
  · have ho : limO z (i + 1) = false := by unfold limO; rw [decide_eq_true (by omega)]; rfl
    have hc : doC (limO z (i + 1)) G (limS (limD z i)) ⟨1, i, lo i⟩ = 11 := by unfold doC; rw [if_pos ho]
    have hd : limD z (i + 1) = limD z i := by unfold limD; rw [if_pos h1.1, if_pos h1.1]; omega
    rw [hc] at hu
    rw [show doS (limO z (i + 1)) G (limS (limD z i)) ⟨1, i, lo i⟩ = limS (limD z i) from if_neg (by rw [hc]; decide), show doG (limO z (i + 1)) G (limS (limD z i)) ⟨1, i, lo i⟩ = G from if_neg (by rw [hc]; decide)] at F
    rw [if_pos h1, hd]
    exact ⟨u, M', G, rfl, hu, hG, F.as (fun a ha => by
      rcases (by omega : a = 0 ∨ a = 1 ∨ a = 2) with rfl | rfl | rfl <;> rfl)⟩
  · have ho : limO z (i + 1) = true := by unfold limO; rw [decide_eq_false (by omega)]; rfl
    have hd : limD z i = min i 32 := by unfold limD; split <;> omega
    have hd2 : limD z (i + 1) = min (i + 1) 32 := by unfold limD; split <;> omega
    rw [if_neg h1]
    by_cases h2 : 32 ≤ i
    · have hc : doC (limO z (i + 1)) G (limS (limD z i)) ⟨1, i, lo i⟩ = 13 := by unfold doC; rw [if_neg (by rw [ho]; decide), if_pos (by omega)]
      rw [hc] at hu
      rw [show doS (limO z (i + 1)) G (limS (limD z i)) ⟨1, i, lo i⟩ = limS (limD z i) from if_neg (by rw [hc]; decide), show doG (limO z (i + 1)) G (limS (limD z i)) ⟨1, i, lo i⟩ = G from if_neg (by rw [hc]; decide)] at F
      have e2 : limD z (i + 1) = limD z i := by omega
      rw [if_pos h2, e2]
      exact ⟨u, M', G, rfl, hu, hG, F.as (fun a ha => by
        rcases (by omega : a = 0 ∨ a = 1 ∨ a = 2) with rfl | rfl | rfl <;> rfl)⟩
    · have e1 : limD z i = i := by omega
      have e2 : limD z (i + 1) = i + 1 := by omega
      rw [e1] at hu F hG
      have hc : doC (limO z (i + 1)) G (limS i) ⟨1, i, lo i⟩ = 0 := by unfold doC; rw [if_neg (by rw [ho]; decide), if_neg (by omega)]; exact lim_ap i hi
      rw [hc] at hu
      rw [show doS (limO z (i + 1)) G (limS i) ⟨1, i, lo i⟩ = limS (i + 1) from (if_pos hc).trans (lim_aps i hi), show doG (limO z (i + 1)) G (limS i) ⟨1, i, lo i⟩ = G ++ [⟨1, i, lo i⟩] from if_pos hc] at F
      rw [if_neg h2, e2]
      exact ⟨u, M', _, rfl, hu, by rw [List.length_append, hG]; rfl, F.as (fun a ha => by
        rcases (by omega : a = 0 ∨ a = 1 ∨ a = 2) with rfl | rfl | rfl <;> rfl)⟩
set_option maxHeartbeats 8000000 in
set_option maxRecDepth 100000 in
theorem limits_core (n : Nat) (hn : n ≤ 50) (z : Int) (hz : i64R z) (W : World) (hE : ErrT W) : Calls Tryz.prog 3 #[.int .i64 (n : Nat), .int .i64 z] W fun e w' => e = .returned (.bool true) ∧ Gr W w' := by
  have HE := Lib.hid hE
  have hn9 : (n : Int) ≤ 50 := by omega
  have t1 : decide ((n : Int) < 0) = false := decide_eq_false (by omega)
  have t2 : decide ((50 : Int) < (n : Int)) = false := decide_eq_false (by omega)
  have HZ := Lib.hid hz
  clear hE hz
  go_enter Tryz.func3, Tryz.ntmps3
  go_wp2_with fail
  go_at_call 12
  refine (md_New _).mono ?_
  rintro e w0 ⟨rfl, e0⟩
  have F0 := (Fam.none (W := W) (w := W) (Q := fun _ => 0) (M := fun _ => none) (σ := fun _ _ => none) (N := 0) (Below.refl _ _)).more (w' := w0) (C := W.heap.size) (MC := none) (τ := fun _ => none) (by rw [e0]; exact mdAt_new (fun _ _ => rfl) (fun m h => (by cases h))) (Nat.le_refl _) (fun m h => (by cases h)) (by rw [e0]; exact (Below.refl _ _).alloc (Nat.le_refl _) _)
  have AN := Lib.hid (st_New (b := 0) (by decide) F0)
  clear F0 e0
  go_wp2_with fail
  go_at_call 11
  refine (AN.out).mono ?_
  rintro e w1 ⟨S, Q, M1, rfl, -, F1⟩
  have HF1 : Hid (StF W w1 0 3 Q M1 (tr3 (fun _ => none) (fun _ => none) (limS (limD z 0))) S 1 2 (limO z 0) []) := Lib.hid (by
    have e1 : limD z 0 = 0 := by unfold limD; split <;> omega
    have e2 : limO z 0 = true := by unfold limO; rw [decide_eq_false (by omega)]; rfl
    rw [e1, e2, limS_0]
    exact F1.as (fun a ha => by
      rcases (by omega : a = 0 ∨ a = 1 ∨ a = 2) with rfl | rfl | rfl <;> rfl))
  clear F1 AN
  go_wp2_with fail
  go_loopg [6] n (fun m x wr => ∃ (i : Nat) (M : Nat → Option Nat) (G : List CS), x = .int .i64 i ∧ i ≤ n ∧ m = n - i ∧ Hid (G.length = limD z i ∧ StF W wr i 3 Q M (tr3 (fun _ => none) (fun _ => none) (limS (limD z i))) S 1 2 (limO z i) G))
  case atStart => exact ⟨0, M1, [], rfl, Nat.zero_le _, by omega, Lib.hid ⟨by unfold limD; show 0 = _; split <;> omega, HF1.out⟩⟩
  case round =>
    obtain ⟨i, M, G, rfl, hi, hk, HFi⟩ := hrel
    by_cases hlt : i < n
    · have ti : decide ((i : Int) < (n : Int)) = true := decide_eq_true (by omega)
      have ti2 : decide (i < n) = true := decide_eq_true hlt
      have ti3 : (i : Int) < (n : Int) := by omega
      have ti4 : (i : Int) ≤ 50 := by omega
      have hmm2 : n - (i + 1) < gk := by omega
      obtain ⟨-, hln, AS⟩ := lo_put i (by omega)
      have AS := Lib.hid AS
      have hGl : G.length ≤ 1000 := by
        have := HFi.out.1
        have : limD z i ≤ 32 := by unfold limD; split <;> omega
        omega
      have HGl := Lib.hid (And.intro hGl hln)
      obtain ⟨q, hq⟩ : ∃ q : Nat, q = (lo i).n := ⟨_, rfl⟩
      obtain ⟨kk, hkk⟩ : ∃ kk : Int, kk = (lo i).k := ⟨_, rfl⟩
      rw [← hq, ← hkk] at AS
      have HQ := Lib.hid (And.intro hq hkk)
      clear hGl hln hq hkk
      by_cases hc1 : z = (i : Int)
      · subst hc1
        have tz : ((i : Int) == (i : Int)) = true := beq_self_eq_true _
        have tz2 : decide ((i : Int) ≤ (i : Int)) = true := decide_eq_true (Int.le_refl _)
        have tz3 : decide ((0 : Int) ≤ (i : Int)) = true := decide_eq_true (by omega)
        have tz4 : (0 : Int) ≤ (i : Int) := by omega
        have AE := Lib.hid (st_End HFi.out.2)
        go_wp2_with fail
        go_at_call 13
        refine (AE.out).mono ?_
        rintro e w2 ⟨u2, rfl, hu2, F2⟩
        have ho : limO (i : Int) i = true := by unfold limO; rw [decide_eq_false (by omega)]; rfl
        rw [if_pos ho] at hu2
        obtain rfl := werr_0 hu2
        have HFe : Hid (StF W w2 i 3 Q M (tr3 (fun _ => none) (fun _ => none) (limS (limD (i : Int) i))) S 1 2 (limO (i : Int) (i + 1)) G) := Lib.hid (by
          have : limO (i : Int) (i + 1) = false := by unfold limO; rw [decide_eq_true (by omega)]; rfl
          rw [this]
          exact F2)
        have HCo : Hid ((if 0 ≤ (i : Int) ∧ (i : Int) ≤ i then 11 else if 32 ≤ i then 13 else 0) = 11) := Lib.hid (if_pos ⟨by omega, by omega⟩)
        clear hu2 F2 ho AE
        go_wp2_with fail
        go_at_call 16
        refine (AS.out _).mono ?_
        rintro e w3 ⟨B, rfl, hp, hB, g3⟩
        have AP := Lib.hid (st_Put (W := W) (w := w3) (kk := kk) (id := (i : Nat)) (n := q) (v := .slice (some ⟨B, 0, none⟩) q q) (by unfold i64R; omega) (by omega) HGl.out.1 (by have := HGl.out.2; have := HQ.out.1; omega) (HFe.out.to g3) (by rw [HQ.out.1] at hp ⊢; exact hp))
        clear hp hB g3
        go_wp2_with fail
        go_at_call 15
        refine (AP.out).mono ?_
        intro e w4 h4
        rw [HQ.out.1, HQ.out.2] at h4
        obtain ⟨u, M4, G4, rfl, hu, hG4, F4⟩ := lim_do (by omega) HFi.out.1 h4
        rw [HCo.out] at hu
        have HF4 := Lib.hid (And.intro hG4 F4)
        have AI := Lib.hid (c_AlIs_werr w4 (errT_gr HE.out F4.fam.gr) hu)
        clear h4 hu hG4 F4 AP
        go_wp2_with fail
        go_at_call 14
        refine (AI.out).mono ?_
        rintro e w5 ⟨rfl, g5⟩
        have HF5 := Lib.hid (And.intro HF4.out.1 (HF4.out.2.to g5))
        clear g5 HF4
        go_wp2_with fail
        go_roundg (n - (i + 1))
        case measure => omega
        case rel => exact ⟨i + 1, M4, G4, by go_num, by omega, rfl, HF5⟩
      · have tz : ((i : Int) == z) = false := by simpa using fun h => hc1 h.symm
        have HFe : Hid (StF W wr i 3 Q M (tr3 (fun _ => none) (fun _ => none) (limS (limD z i))) S 1 2 (limO z (i + 1)) G) := Lib.hid (by
          have : limO z (i + 1) = limO z i := by
            unfold limO
            rw [show (decide (0 ≤ z ∧ z < ((i + 1 : Nat) : Int))) = decide (0 ≤ z ∧ z < (i : Int)) from decide_eq_decide.2 (by omega)]
          rw [this]
          exact HFi.out.2)
        obtain ⟨wx, ewx⟩ : ∃ wx, wx = wr := ⟨_, rfl⟩
        by_cases hc2 : 0 ≤ z
        · have tc2 : decide ((0 : Int) ≤ z) = true := decide_eq_true hc2
          by_cases hc3 : z ≤ (i : Int)
          · have tc3 : decide (z ≤ (i : Int)) = true := decide_eq_true hc3
            have HCo : Hid ((if 0 ≤ z ∧ z ≤ i then 11 else if 32 ≤ i then 13 else 0) = 11) := Lib.hid (if_pos ⟨hc2, hc3⟩)
            clear hc1 hc2 hc3
            go_wp2_with fail
            go_at_call 16
            refine (AS.out _).mono ?_
            rintro e w3 ⟨B, rfl, hp, hB, g3⟩
            have AP := Lib.hid (st_Put (W := W) (w := w3) (kk := kk) (id := (i : Nat)) (n := q) (v := .slice (some ⟨B, 0, none⟩) q q) (by unfold i64R; omega) (by omega) HGl.out.1 (by have := HGl.out.2; have := HQ.out.1; omega) (HFe.out.to g3) (by rw [HQ.out.1] at hp ⊢; exact hp))
            clear hp hB g3
            go_wp2_with fail
            go_at_call 15
            refine (AP.out).mono ?_
            intro e w4 h4
            rw [HQ.out.1, HQ.out.2] at h4
            obtain ⟨u, M4, G4, rfl, hu, hG4, F4⟩ := lim_do (by omega) HFi.out.1 h4
            rw [HCo.out] at hu
            have HF4 := Lib.hid (And.intro hG4 F4)
            have AI := Lib.hid (c_AlIs_werr w4 (errT_gr HE.out F4.fam.gr) hu)
            clear h4 hu hG4 F4 AP
            go_wp2_with fail
            go_at_call 14
            refine (AI.out).mono ?_
            rintro e w5 ⟨rfl, g5⟩
            have HF5 := Lib.hid (And.intro HF4.out.1 (HF4.out.2.to g5))
            clear g5 HF4
            go_wp2_with fail
            go_roundg (n - (i + 1))
            case measure => omega
            case rel => exact ⟨i + 1, M4, G4, by go_num, by omega, rfl, HF5⟩
          · have tc3 : decide (z ≤ (i : Int)) = false := decide_eq_false hc3
            by_cases hc4 : 32 ≤ i
            · have tc4 : decide ((32 : Int) ≤ (i : Int)) = true := decide_eq_true (by omega)
              have tc5 : decide (32 ≤ i) = true := decide_eq_true hc4
              have HCo : Hid ((if 0 ≤ z ∧ z ≤ i then 11 else if 32 ≤ i then 13 else 0) = 13) := Lib.hid (by rw [if_neg (fun h => hc3 h.2), if_pos hc4])
              clear hc1 hc2 hc3 hc4
              go_wp2_with fail
              go_at_call 16
              refine (AS.out _).mono ?_
              rintro e w3 ⟨B, rfl, hp, hB, g3⟩
              have AP := Lib.hid (st_Put (W := W) (w := w3) (kk := kk) (id := (i : Nat)) (n := q) (v := .slice (some ⟨B, 0, none⟩) q q) (by unfold i64R; omega) (by omega) HGl.out.1 (by have := HGl.out.2; have := HQ.out.1; omega) (HFe.out.to g3) (by rw [HQ.out.1] at hp ⊢; exact hp))
              clear hp hB g3
              go_wp2_with fail
              go_at_call 15
              refine (AP.out).mono ?_
              intro e w4 h4
              rw [HQ.out.1, HQ.out.2] at h4
              obtain ⟨u, M4, G4, rfl, hu, hG4, F4⟩ := lim_do (by omega) HFi.out.1 h4
              rw [HCo.out] at hu
              have HF4 := Lib.hid (And.intro hG4 F4)
              have AI := Lib.hid (c_AlIs_werr w4 (errT_gr HE.out F4.fam.gr) hu)
              clear h4 hu hG4 F4 AP
              go_wp2_with fail
              go_at_call 14
              refine (AI.out).mono ?_
              rintro e w5 ⟨rfl, g5⟩
              have HF5 := Lib.hid (And.intro HF4.out.1 (HF4.out.2.to g5))
              clear g5 HF4
              go_wp2_with fail
              go_roundg (n - (i + 1))
              case measure => omega
              case rel => exact ⟨i + 1, M4, G4, by go_num, by omega, rfl, HF5⟩
            · have tc4 : decide ((32 : Int) ≤ (i : Int)) = false := decide_eq_false (by omega)
              have tc5 : decide (32 ≤ i) = false := decide_eq_false hc4
              have HCo : Hid ((if 0 ≤ z ∧ z ≤ i then 11 else if 32 ≤ i then 13 else 0) = 0) := Lib.hid (by rw [if_neg (fun h => hc3 h.2), if_neg hc4])
              clear hc1 hc2 hc3 hc4
              go_wp2_with fail
              go_at_call 16
              refine (AS.out _).mono ?_
              rintro e w3 ⟨B, rfl, hp, hB, g3⟩
              have AP := Lib.hid (st_Put (W := W) (w := w3) (kk := kk) (id := (i : Nat)) (n := q) (v := .slice (some ⟨B, 0, none⟩) q q) (by unfold i64R; omega) (by omega) HGl.out.1 (by have := HGl.out.2; have := HQ.out.1; omega) (HFe.out.to g3) (by rw [HQ.out.1] at hp ⊢; exact hp))
              clear hp hB g3
              go_wp2_with fail
              go_at_call 15
              refine (AP.out).mono ?_
              intro e w4 h4
              rw [HQ.out.1, HQ.out.2] at h4
              obtain ⟨u, M4, G4, rfl, hu, hG4, F4⟩ := lim_do (by omega) HFi.out.1 h4
              rw [HCo.out] at hu
              have HF4 := Lib.hid (And.intro hG4 F4)
              have AI := Lib.hid (c_AlIs_werr w4 (errT_gr HE.out F4.fam.gr) hu)
              clear h4 hu hG4 F4 AP
              go_wp2_with fail
              go_at_call 14
              refine (AI.out).mono ?_
              rintro e w5 ⟨rfl, g5⟩
              have HF5 := Lib.hid (And.intro HF4.out.1 (HF4.out.2.to g5))
              clear g5 HF4
              go_wp2_with fail
              go_roundg (n - (i + 1))
              case measure => omega
              case rel => exact ⟨i + 1, M4, G4, by go_num, by omega, rfl, HF5⟩
        · have tc2 : decide ((0 : Int) ≤ z) = false := decide_eq_false hc2
          by_cases hc4 : 32 ≤ i
          · have tc4 : decide ((32 : Int) ≤ (i : Int)) = true := decide_eq_true (by omega)
            have tc5 : decide (32 ≤ i) = true := decide_eq_true hc4
            have HCo : Hid ((if 0 ≤ z ∧ z ≤ i then 11 else if 32 ≤ i then 13 else 0) = 13) := Lib.hid (by rw [if_neg (fun h => hc2 h.1), if_pos hc4])
            clear hc1 hc2 hc4
            go_wp2_with fail
            go_at_call 16
            refine (AS.out _).mono ?_
            rintro e w3 ⟨B, rfl, hp, hB, g3⟩
            have AP := Lib.hid (st_Put (W := W) (w := w3) (kk := kk) (id := (i : Nat)) (n := q) (v := .slice (some ⟨B, 0, none⟩) q q) (by unfold i64R; omega) (by omega) HGl.out.1 (by have := HGl.out.2; have := HQ.out.1; omega) (HFe.out.to g3) (by rw [HQ.out.1] at hp ⊢; exact hp))
            clear hp hB g3
            go_wp2_with fail
            go_at_call 15
            refine (AP.out).mono ?_
            intro e w4 h4
            rw [HQ.out.1, HQ.out.2] at h4
            obtain ⟨u, M4, G4, rfl, hu, hG4, F4⟩ := lim_do (by omega) HFi.out.1 h4
            rw [HCo.out] at hu
            have HF4 := Lib.hid (And.intro hG4 F4)
            have AI := Lib.hid (c_AlIs_werr w4 (errT_gr HE.out F4.fam.gr) hu)
            clear h4 hu hG4 F4 AP
            go_wp2_with fail
            go_at_call 14
            refine (AI.out).mono ?_
            rintro e w5 ⟨rfl, g5⟩
            have HF5 := Lib.hid (And.intro HF4.out.1 (HF4.out.2.to g5))
            clear g5 HF4
            go_wp2_with fail
            go_roundg (n - (i + 1))
            case measure => omega
            case rel => exact ⟨i + 1, M4, G4, by go_num, by omega, rfl, HF5⟩
          · have tc4 : decide ((32 : Int) ≤ (i : Int)) = false := decide_eq_false (by omega)
            have tc5 : decide (32 ≤ i) = false := decide_eq_false hc4
            have HCo : Hid ((if 0 ≤ z ∧ z ≤ i then 11 else if 32 ≤ i then 13 else 0) = 0) := Lib.hid (by rw [if_neg (fun h => hc2 h.1), if_neg hc4])
            clear hc1 hc2 hc4
            go_wp2_with fail
            go_at_call 16
            refine (AS.out _).mono ?_
            rintro e w3 ⟨B, rfl, hp, hB, g3⟩
            have AP := Lib.hid (st_Put (W := W) (w := w3) (kk := kk) (id := (i : Nat)) (n := q) (v := .slice (some ⟨B, 0, none⟩) q q) (by unfold i64R; omega) (by omega) HGl.out.1 (by have := HGl.out.2; have := HQ.out.1; omega) (HFe.out.to g3) (by rw [HQ.out.1] at hp ⊢; exact hp))
            clear hp hB g3
            go_wp2_with fail
            go_at_call 15
            refine (AP.out).mono ?_
            intro e w4 h4
            rw [HQ.out.1, HQ.out.2] at h4
            obtain ⟨u, M4, G4, rfl, hu, hG4, F4⟩ := lim_do (by omega) HFi.out.1 h4
            rw [HCo.out] at hu
            have HF4 := Lib.hid (And.intro hG4 F4)
            have AI := Lib.hid (c_AlIs_werr w4 (errT_gr HE.out F4.fam.gr) hu)
            clear h4 hu hG4 F4 AP
            go_wp2_with fail
            go_at_call 14
            refine (AI.out).mono ?_
            rintro e w5 ⟨rfl, g5⟩
            have HF5 := Lib.hid (And.intro HF4.out.1 (HF4.out.2.to g5))
            clear g5 HF4
            go_wp2_with fail
            go_roundg (n - (i + 1))
            case measure => omega
            case rel => exact ⟨i + 1, M4, G4, by go_num, by omega, rfl, HF5⟩
    · obtain rfl : i = n := by omega
      have ti : decide ((i : Int) < (i : Int)) = false := decide_eq_false (by omega)
      have ti2 : decide (i < i) = false := decide_eq_false (by omega)
      clear hk HF1
      obtain ⟨d, hd⟩ : ∃ d, d = limD z i := ⟨_, rfl⟩
      have hd32 : d ≤ 32 := by rw [hd]; unfold limD; split <;> omega
      obtain ⟨k1, hk1⟩ : ∃ k1, k1 = min i 32 := ⟨_, rfl⟩
      have hgl : G.length = d := HFi.out.1.trans hd.symm
      have HFx : Hid (StF W wr i 3 Q M (tr3 (fun _ => none) (fun _ => none) (limS d)) S 1 2 (limO z i) G) := Lib.hid (by rw [hd]; exact HFi.out.2)
      have AC := Lib.hid (st_Changes HFx.out (by omega))
      have AL := Lib.hid (fun w' (g : Gr wr w') => st_Len (l := (List.range d).map Int.ofNat) (HFx.out.to g) (limS_ids d (by omega)))
      have hll : ((List.range d).map Int.ofNat).length = d := by rw [List.length_map, List.length_range]
      rw [hll] at AL
      have HGL := Lib.hid hgl
      have tb : ((d : Int) == (d : Int)) = true := beq_self_eq_true _
      clear hgl hll HFi
      have HD := Lib.hid hd
      have HK1 := Lib.hid hk1
      by_cases hz0 : 0 ≤ z
      · have tz0 : decide ((0 : Int) ≤ z) = true := decide_eq_true hz0
        have em1 : min (i : Int) 32 = (k1 : Int) := by omega
        have em2 : min (k1 : Int) z = (d : Int) := by rw [hd]; unfold limD; rw [if_pos hz0]; omega
        clear hd hk1 hz0
        go_wp2_with fail
        go_at_call 17
        refine (AC.out).mono ?_
        intro e w2 h2
        obtain ⟨ad2, cp2, rfl, g2⟩ := chgsTo_len h2
        rw [HGL.out]
        have HG2 := Lib.hid g2
        clear h2 g2
        go_wp2_with fail
        go_at_call 18
        refine (AL.out _ HG2.out).mono ?_
        rintro e w3 ⟨rfl, g3⟩
        have HG3 := Lib.hid (Gr.trans HG2.out g3)
        clear g3
        go_wp2_with fail
        go_at_call 16
        refine (md_shape0 _).mono ?_
        rintro e w4 ⟨B, rfl, p0, p1, hB, g4⟩
        have AP := Lib.hid (st_Put_nil (id := 1) (k := 1) (show 1 ≤ 1000000 by decide) w4 (pts_one p0 p1))
        have HG4 := Lib.hid (Gr.trans HG3.out g4)
        clear p0 p1 hB g4
        go_wp2_with fail
        go_at_call 15
        refine (AP.out).mono ?_
        rintro e w5 ⟨u5, rfl, hu5, g5⟩
        have AI5 := Lib.hid (c_Code_oerr w5 (oerr_werr hu5))
        have HG5 := Lib.hid (Gr.trans HG4.out g5)
        clear hu5 g5
        go_wp2_with fail
        go_at_call 19
        refine (AI5.out).mono ?_
        rintro e w6 ⟨rfl, g6⟩
        have HG6 := Lib.hid (Gr.trans HG5.out g6)
        clear g6
        go_wp2_with fail
        go_at_call 13
        refine (st_end_nil _).mono ?_
        rintro e w7 ⟨u7, rfl, hu7, g7⟩
        have AI7 := Lib.hid (c_Code_oerr w7 (oerr_werr hu7))
        have HG7 := Lib.hid (Gr.trans HG6.out g7)
        clear hu7 g7
        go_wp2_with fail
        go_at_call 19
        refine (AI7.out).mono ?_
        rintro e w8 ⟨rfl, g8⟩
        have HG8 := Lib.hid (Gr.trans HG7.out g8)
        clear g8
        go_wp2_with fail
        go_at_call 18
        refine (st_len_nil _).mono ?_
        rintro e w9 ⟨rfl, g9⟩
        have HG9 := Lib.hid (Gr.trans HFx.out.fam.gr (Gr.trans HG8.out g9))
        have AW := Lib.hid (p24_awake w9 (errT_gr HE.out HG9.out))
        clear g9
        go_wp2_with fail
        go_at_call 10
        refine (AW.out).mono ?_
        rintro e w10 ⟨rfl, g10⟩
        go_wp2_with fail
        go_ret
        exact ⟨rfl, Gr.trans HG9.out g10⟩
      · have tz0 : decide ((0 : Int) ≤ z) = false := decide_eq_false hz0
        have em1 : min (i : Int) 32 = (d : Int) := by rw [hd]; unfold limD; rw [if_neg hz0]; omega
        clear hd hk1 hz0
        go_wp2_with fail
        go_at_call 17
        refine (AC.out).mono ?_
        intro e w2 h2
        obtain ⟨ad2, cp2, rfl, g2⟩ := chgsTo_len h2
        rw [HGL.out]
        have HG2 := Lib.hid g2
        clear h2 g2
        go_wp2_with fail
        go_at_call 18
        refine (AL.out _ HG2.out).mono ?_
        rintro e w3 ⟨rfl, g3⟩
        have HG3 := Lib.hid (Gr.trans HG2.out g3)
        clear g3
        go_wp2_with fail
        go_at_call 16
        refine (md_shape0 _).mono ?_
        rintro e w4 ⟨B, rfl, p0, p1, hB, g4⟩
        have AP := Lib.hid (st_Put_nil (id := 1) (k := 1) (show 1 ≤ 1000000 by decide) w4 (pts_one p0 p1))
        have HG4 := Lib.hid (Gr.trans HG3.out g4)
        clear p0 p1 hB g4
        go_wp2_with fail
        go_at_call 15
        refine (AP.out).mono ?_
        rintro e w5 ⟨u5, rfl, hu5, g5⟩
        have AI5 := Lib.hid (c_Code_oerr w5 (oerr_werr hu5))
        have HG5 := Lib.hid (Gr.trans HG4.out g5)
        clear hu5 g5
        go_wp2_with fail
        go_at_call 19
        refine (AI5.out).mono ?_
        rintro e w6 ⟨rfl, g6⟩
        have HG6 := Lib.hid (Gr.trans HG5.out g6)
        clear g6
        go_wp2_with fail
        go_at_call 13
        refine (st_end_nil _).mono ?_
        rintro e w7 ⟨u7, rfl, hu7, g7⟩
        have AI7 := Lib.hid (c_Code_oerr w7 (oerr_werr hu7))
        have HG7 := Lib.hid (Gr.trans HG6.out g7)
        clear hu7 g7
        go_wp2_with fail
        go_at_call 19
        refine (AI7.out).mono ?_
        rintro e w8 ⟨rfl, g8⟩
        have HG8 := Lib.hid (Gr.trans HG7.out g8)
        clear g8
        go_wp2_with fail
        go_at_call 18
        refine (st_len_nil _).mono ?_
        rintro e w9 ⟨rfl, g9⟩
        have HG9 := Lib.hid (Gr.trans HFx.out.fam.gr (Gr.trans HG8.out g9))
        have AW := Lib.hid (p24_awake w9 (errT_gr HE.out HG9.out))
        clear g9
        go_wp2_with fail
        go_at_call 10
        refine (AW.out).mono ?_
        rintro e w10 ⟨rfl, g10⟩
        go_wp2_with fail
        go_ret
        exact ⟨rfl, Gr.trans HG9.out g10⟩
end Go.Proofs.YtpomllpplpalkaaGreatDoor
