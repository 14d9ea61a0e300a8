/- the corners of a hull are a ring; rows of points as lists; boxes -/
import Derived.Test.YtogflfepkddbhaaDoorYj
import Derived.Test.YtogflfepkddbhaaDoorGa
import Derived.Test.YtogflfepkddbhaaDoorGo
namespace Go.Proofs.YtogflfepkddbhaaDoor
set_option linter.unusedVariables false
open Go.ChangeShapes Go.WideShapes Go.ChangeAt Go.RowKit

theorem hcr (a b c : Hp.Pt) : cr a.1 a.2 b.1 b.2 c.1 c.2 = Hp.cz a b c := rfl
theorem on_no {a b c : Hp.Pt} (h : Hp.cz a b c ≠ 0) : onG a.1 a.2 b.1 b.2 c.1 c.2 = false := by
  unfold onG onF
  have : (sg a.1 a.2 b.1 b.2 c.1 c.2 == 0) = false := by
    rcases sg_cases a.1 a.2 b.1 b.2 c.1 c.2 with ⟨e, -⟩ | ⟨e, k⟩ | ⟨e, -⟩
    · rw [e]; rfl
    · exact absurd k h
    · rw [e]; rfl
  rw [this, Bool.and_false, Bool.and_false]
theorem onF_no {a b c : Hp.Pt} (h : Hp.cz a b c ≠ 0) : onF a.1 a.2 b.1 b.2 c.1 c.2 = false := by
  unfold onF
  have : (sg a.1 a.2 b.1 b.2 c.1 c.2 == 0) = false := by
    rcases sg_cases a.1 a.2 b.1 b.2 c.1 c.2 with ⟨e, -⟩ | ⟨e, k⟩ | ⟨e, -⟩
    · rw [e]; rfl
    · exact absurd k h
    · rw [e]; rfl
  rw [this, Bool.and_false]
theorem sg_pos {a b c : Hp.Pt} (h : 0 < Hp.cz a b c) : sg a.1 a.2 b.1 b.2 c.1 c.2 = 1 := by
  rcases sg_cases a.1 a.2 b.1 b.2 c.1 c.2 with ⟨-, k⟩ | ⟨-, k⟩ | ⟨e, -⟩
  · rw [hcr] at k; omega
  · rw [hcr] at k; omega
  · exact e
theorem me_no {a b c d : Hp.Pt} (h1 : 0 < Hp.cz a b c) (h2 : 0 < Hp.cz a b d) (h3 : 0 < Hp.cz c d a) (h4 : 0 < Hp.cz c d b) : meG a.1 a.2 b.1 b.2 c.1 c.2 d.1 d.2 = false := by
  unfold meG meF prF enF
  rw [sg_pos h1, sg_pos h2, onF_no (by omega), onF_no (by omega), onF_no (by omega), onF_no (by omega)]
  simp
theorem fo_no {a b c : Hp.Pt} (h : 0 < Hp.cz a b c) : Rg.foF a.1 a.2 b.1 b.2 c.1 c.2 = false := by
  unfold Rg.foF
  rw [on_no (by omega), on_no (show Hp.cz b c a ≠ 0 by rw [Hp.cz_turn]; omega)]
  simp
/-- The corners of a hull are a ring. -/
theorem hull_ring {l : List Hp.Pt} {n : Nat} {H : Nat → Hp.Pt} {X Y : Nat → Int} (h : Hp.HullOK l n H) (h3 : 3 ≤ n) (h64 : n ≤ 64) (hX : ∀ k, k < n → X k = (H k).1 ∧ Y k = (H k).2) (hn : ∀ k, k < n → nearB (X k) (Y k) = true) : Rg.ringC n X Y = (0, 0) := by
  refine Rg.ringC_0 (by omega) hn fun i hi j hij hj => ?_
  unfold Rg.bdF
  have e : (decide (X i = X j) && decide (Y i = Y j)) = false := by
    rw [← Bool.not_eq_true, Bool.and_eq_true, decide_eq_true_eq, decide_eq_true_eq]
    rintro ⟨e1, e2⟩
    rw [(hX i hi).1, (hX j hj).1] at e1
    rw [(hX i hi).2, (hX j hj).2] at e2
    have := h.inj i j hi hj (Prod.ext e1 e2)
    omega
  rw [e, Bool.false_or]
  have nx : ∀ k, k < n → Rg.nx1 n k = (k + 1) % n := fun k hk => by
    unfold Rg.nx1
    split
    · rename_i e; rw [e, Nat.mod_self]
    · rw [Nat.mod_eq_of_lt (by omega)]
  have nl : ∀ k, k < n → (k + 1) % n < n := fun k hk => Nat.mod_lt _ (by omega)
  unfold Rg.clF
  rw [nx j hj]
  by_cases c : j = i + 1
  · rw [if_pos c, (hX i hi).1, (hX i hi).2, (hX j hj).1, (hX j hj).2, (hX _ (nl j hj)).1, (hX _ (nl j hj)).2]
    subst c
    have := h.turn h3 i hi
    rw [Nat.mod_eq_of_lt hj] at this
    exact fo_no this
  rw [if_neg c]
  by_cases c0 : i = 0 ∧ j + 1 = n
  · rw [if_pos c0, (hX j hj).1, (hX j hj).2, (hX 0 (by omega)).1, (hX 0 (by omega)).2, (hX 1 (by omega)).1, (hX 1 (by omega)).2]
    have := h.turn h3 j hj
    rw [show j + 2 = n + 1 by omega, c0.2, Nat.mod_self, Nat.add_mod_left, Nat.mod_eq_of_lt (by omega)] at this
    exact fo_no this
  rw [if_neg c0]
  have hi1 : i + 1 < n := by omega
  rw [(hX i hi).1, (hX i hi).2, (hX _ hi1).1, (hX _ hi1).2, (hX j hj).1, (hX j hj).2, (hX _ (nl j hj)).1, (hX _ (nl j hj)).2]
  have m1 : (i + 1) % n = i + 1 := Nat.mod_eq_of_lt hi1
  have m2 : (j + 1) % n = if j + 1 = n then 0 else j + 1 := by
    split
    · rename_i e; rw [e, Nat.mod_self]
    · exact Nat.mod_eq_of_lt (by omega)
  have n1 : (j + 1) % n ≠ i := by rw [m2]; split <;> omega
  have n2 : (j + 1) % n ≠ i + 1 := by rw [m2]; split <;> omega
  have s1 := h.strict h3 i j hi hj (by omega) (by rw [m1]; omega)
  have s2 := h.strict h3 i _ hi (nl j hj) n1 (by rw [m1]; exact n2)
  have s3 := h.strict h3 j i hj hi (by omega) (fun e => n1 e.symm)
  have s4 := h.strict h3 j (i + 1) hj hi1 (fun e => c e.symm) (fun e => n2 e.symm)
  rw [m1] at s1 s2
  exact me_no s1 s2 s3 s4

/-- A row of points as a list. -/
def lsP (n : Nat) (X Y : Nat → Int) : List Hp.Pt := (List.range n).map fun k => (X k, Y k)
theorem lsP_len (n : Nat) (X Y : Nat → Int) : (lsP n X Y).length = n := by unfold lsP; simp
theorem lsP_at {n : Nat} {X Y : Nat → Int} {k : Nat} (h : k < n) : (lsP n X Y).getD k (0, 0) = (X k, Y k) := by
  unfold lsP; simp [List.getD_eq_getElem?_getD, h]
theorem lsP_mem {n : Nat} {X Y : Nat → Int} {p : Hp.Pt} : p ∈ lsP n X Y ↔ ∃ k, k < n ∧ p = (X k, Y k) := by
  unfold lsP
  rw [List.mem_map]
  constructor
  · rintro ⟨k, hk, e⟩; exact ⟨k, List.mem_range.1 hk, e.symm⟩
  · rintro ⟨k, hk, e⟩; exact ⟨k, List.mem_range.2 hk, e.symm⟩
theorem lsP_in {n : Nat} {X Y : Nat → Int} {k : Nat} (h : k < n) : (X k, Y k) ∈ lsP n X Y := lsP_mem.2 ⟨k, h, rfl⟩
theorem lsP_ne {n : Nat} {X Y : Nat → Int} (h : 0 < n) : lsP n X Y ≠ [] := fun e => by have := lsP_in (X := X) (Y := Y) h; rw [e] at this; simp at this

theorem hmn (F : Nat → Int) : ∀ n, 1 ≤ n → (∃ k, k < n ∧ mnN F n = F k) ∧ ∀ k, k < n → mnN F n ≤ F k
  | 0, h => by omega
  | n + 1, _ => by
    by_cases c : n = 0
    · subst c
      rw [mnN_0 F rfl]
      exact ⟨⟨0, by omega, rfl⟩, fun k hk => by (have e : k = 0 := (by omega)); subst e; exact Int.le_refl _⟩
    · rw [mnN_s F c]
      obtain ⟨⟨k, hk, e⟩, h2⟩ := hmn F n (by omega)
      unfold minZ
      refine ⟨?_, fun j hj => ?_⟩
      · split
        · exact ⟨n, by omega, rfl⟩
        · exact ⟨k, by omega, e⟩
      · by_cases cj : j = n
        · subst cj; split <;> omega
        · have := h2 j (by omega); split <;> omega
theorem hmx (F : Nat → Int) : ∀ n, 1 ≤ n → (∃ k, k < n ∧ mxN F n = F k) ∧ ∀ k, k < n → F k ≤ mxN F n
  | 0, h => by omega
  | n + 1, _ => by
    by_cases c : n = 0
    · subst c
      rw [mxN_0 F rfl]
      exact ⟨⟨0, by omega, rfl⟩, fun k hk => by (have e : k = 0 := (by omega)); subst e; exact Int.le_refl _⟩
    · rw [mxN_s F c]
      obtain ⟨⟨k, hk, e⟩, h2⟩ := hmx F n (by omega)
      unfold maxZ
      refine ⟨?_, fun j hj => ?_⟩
      · split
        · exact ⟨n, by omega, rfl⟩
        · exact ⟨k, by omega, e⟩
      · by_cases cj : j = n
        · subst cj; split <;> omega
        · have := h2 j (by omega); split <;> omega
end Go.Proofs.YtogflfepkddbhaaDoor
