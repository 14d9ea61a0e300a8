import Derived.Test.YtpomllpplpalkaaGreatDoorEs
import Derived.Test.YtpomllpplpalkaaGreatDoorEt
import Derived.Test.YtpomllpplpalkaaGreatDoorOe
import Derived.Test.YtpomllpplpalkaaGreatDoorEa
import Derived.Test.YtpomllpplpalkaaGreatDoorGk
import Derived.WalkSmall
import Derived.RegionTactic
import Derived.BigRegion
/- objects as bytes: the program's, the document's -/
namespace Go.Proofs.YtpomllpplpalkaaGreatDoor
set_option linter.unusedVariables false
set_option linter.unusedSimpArgs false
open Go.ChangeShapes Go.WideShapes Go.ChangeAt Go.RowKit

theorem kx_of_grown {S : Nat → Prop} {a b : World} {u v : Value} (h : Grown a b u v) (hS : ∀ k, u.ownBlock = some k → S k) : Kx S a b :=
  ⟨h.1.os, h.1.tape, h.1.output, h.1.size, fun k hk hs => h.1.block k hk (fun e => by
    cases hu : u.ownBlock with
    | none => rw [hu] at e; cases e
    | some j => rw [hu] at e; cases e; exact hs (hS _ hu))⟩
theorem own_at {w : World} {base k : Nat} {v : Value} {L : List UInt8} (h : Own w base v L) (hk : v.ownBlock = some k) : base ≤ k ∧ k < w.heap.size := World.ownsRow.lt h k hk
theorem objC_near {k : Int} {n : Nat} {X Y : Nat → Int} (h : objC k n X Y = 0) : 1 ≤ k ∧ k ≤ 4 ∧ n ≤ 64 ∧ 1 ≤ n ∧ ∀ i, i < n → nearB (X i) (Y i) = true := by
  have hb : ∀ a b c d, boxN a b c d = 0 → nearB a b = true ∧ nearB c d = true := fun a b c d hh => by
    unfold boxN at hh
    split at hh
    · rename_i h1; simpa using h1
    · cases hh
  by_cases h4 : k = 4
  · subst h4
    rw [objC_4] at h
    obtain ⟨q1, q2, _, _⟩ := Rg.ringC_ok h
    exact ⟨by omega, by omega, by omega, by omega, q2⟩
  by_cases h3 : k = 3
  · subst h3
    rw [objC_3] at h
    by_cases hn : n = 2
    · rw [if_pos hn] at h
      obtain ⟨q1, q2⟩ := hb _ _ _ _ h
      refine ⟨by omega, by omega, by omega, by omega, fun i hi => ?_⟩
      rcases (by omega : i = 0 ∨ i = 1) with rfl | rfl
      · exact q1
      · exact q2
    · rw [if_neg hn] at h; cases h
  by_cases h1 : k = 1
  · subst h1
    rw [objC_1] at h
    by_cases hn : n = 1
    · rw [if_pos hn] at h
      refine ⟨by omega, by omega, by omega, by omega, fun i hi => ?_⟩
      obtain rfl : i = 0 := by omega
      exact (hb _ _ _ _ h).1
    · rw [if_neg hn] at h; cases h
  by_cases h2 : k = 2
  · subst h2
    rw [objC_2] at h
    by_cases hn : n = 1
    · rw [if_pos hn] at h
      refine ⟨by omega, by omega, by omega, by omega, fun i hi => ?_⟩
      obtain rfl : i = 0 := by omega
      have := hb _ _ _ _ h
      rw [nearB_iff, nearB_iff] at this
      rw [nearB_iff]
      omega
    · rw [if_neg hn] at h; cases h
  rw [objC_x h4 h3 h1 h2] at h
  cases h
def trm (n : Nat) (F : Nat → Int) (i : Nat) : Int := if i < n then F i else 0
theorem trm_in {n i : Nat} {F : Nat → Int} (h : i < n) : trm n F i = F i := if_pos h
theorem pts_trm {w : World} {v : Value} {n : Nat} {X Y : Nat → Int} (h : Pts w v n X Y) : Pts w v n (trm n X) (trm n Y) := by
  obtain ⟨ad, cap, B, off, h1, h2, h3, h4, h5⟩ := h
  exact ⟨ad, cap, B, off, h1, h2, h3, h4, fun k hk => by rw [trm_in hk, trm_in hk]; exact h5 k hk⟩
theorem ptsB_congr {X Y P Q : Nat → Int} : ∀ n, (∀ i, i < n → X i = P i ∧ Y i = Q i) → ptsB X Y n = ptsB P Q n
  | 0, _ => rfl
  | n + 1, h => by
    simp only [ptsB]
    rw [ptsB_congr n (fun i hi => h i (by omega)), (h n (by omega)).1, (h n (by omega)).2]
theorem ptsB_trm (n : Nat) (X Y : Nat → Int) : ptsB (trm n X) (trm n Y) n = ptsB X Y n := ptsB_congr n fun i hi => ⟨trm_in hi, trm_in hi⟩
theorem near_iw {x y : Int} (h : nearB x y = true) : Iw x ∧ Iw y := by
  rw [nearB_iff] at h
  unfold Iw
  omega
theorem trm_iw {n : Nat} {X Y : Nat → Int} (h : ∀ i, i < n → nearB (X i) (Y i) = true) (i : Nat) : Iw (trm n X i) ∧ Iw (trm n Y i) := by
  by_cases c : i < n
  · rw [trm_in c, trm_in c]; exact near_iw (h i c)
  · unfold trm; rw [if_neg c, if_neg c]; unfold Iw; omega
def objB (k : Int) (n : Nat) (X Y : Nat → Int) : List UInt8 := Ec.vr k.toNat ++ Ec.vr n ++ ptsB X Y n
theorem row_none (w : World) : Row w (.slice none 0 0) [] := ⟨none, 0, 0, 0, rfl, Nat.le_refl _, by omega, fun h => absurd h (by simp), fun j hj => absurd hj (by simp)⟩
end Go.Proofs.YtpomllpplpalkaaGreatDoor
/- enc.Unobject -/
namespace Go.Proofs.YtpomllpplpalkaaGreatDoor
set_option linter.unusedVariables false
set_option linter.unusedSimpArgs false
open Go.ChangeShapes Go.WideShapes Go.ChangeAt Go.RowKit

/-! ### the points that bytes read as -/
def New (W : World) (v : Value) : Prop := ∀ (ad : Addr) (m c : Nat), v = .slice (some ad) m c → W.heap.size ≤ ad.block
theorem new_of_own {W w : World} {base n size : Nat} {e : TypeId} {v : Value} {xs : List Value} (h : w.ownsRow base e size v n xs) (hb : W.heap.size ≤ base) : New W v := fun ad m c e => by
  subst e
  have := (World.ownsRow.lt h ad.block rfl).1
  omega
end Go.Proofs.YtpomllpplpalkaaGreatDoor
