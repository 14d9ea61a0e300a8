/- a heap in a list: plain facts -/
namespace Go.Proofs.Ytldlpbfncgcimaa.Hp
set_option linter.unusedVariables false
variable {E : Type}

/-- An order: what is not ahead goes on. -/
structure Ord (lt : E → E → Bool) : Prop where
  asym : ∀ a b, lt a b = true → lt b a = false
  trans : ∀ a b c, lt a b = false → lt b c = false → lt a c = false
theorem Ord.irr {lt : E → E → Bool} (o : Ord lt) (a : E) : lt a a = false := by
  cases h : lt a a with
  | false => rfl
  | true => have := o.asym a a h; rw [h] at this; cases this
theorem Ord.tt {lt : E → E → Bool} (o : Ord lt) {a b c : E} (h : lt a b = true) (k : lt b c = true) : lt a c = true := by
  cases h1 : lt a c with
  | true => rfl
  | false => have := o.trans a c b h1 (o.asym _ _ k); rw [h] at this; cases this
theorem Ord.lf {lt : E → E → Bool} (o : Ord lt) {a b c : E} (h : lt a b = true) (k : lt c b = false) : lt a c = true := by
  cases h1 : lt a c with
  | true => rfl
  | false => have := o.trans a c b h1 k; rw [h] at this; cases this
theorem Ord.fl {lt : E → E → Bool} (o : Ord lt) {a b c : E} (h : lt b a = false) (k : lt b c = true) : lt a c = true := by
  cases h1 : lt a c with
  | true => rfl
  | false => have := o.trans b a c h h1; rw [k] at this; cases this

/-- The i-th and the j-th change places. -/
def sw (L : List E) (i j : Nat) (hi : i < L.length) (hj : j < L.length) : List E := (L.set i L[j]).set j L[i]
theorem sw_len (L : List E) (i j : Nat) (hi hj) : (sw L i j hi hj).length = L.length := by unfold sw; simp
theorem sw_perm (L : List E) (i j : Nat) (hi hj) : (sw L i j hi hj).Perm L := List.set_set_perm hi hj
theorem sw_get (L : List E) (i j : Nat) (hi hj) (k : Nat) (hk : k < (sw L i j hi hj).length) :
    (sw L i j hi hj)[k] = if k = j then L[i] else if k = i then L[j] else L[k]'(by rw [sw_len] at hk; exact hk) := by
  have hk' : k < ((L.set i L[j]).set j L[i]).length := by have := sw_len L i j hi hj; simp; omega
  show ((L.set i L[j]).set j L[i])[k]'hk' = _
  rw [List.getElem_set]
  by_cases h : j = k
  · rw [if_pos h, if_pos h.symm]
  · rw [if_neg h, if_neg (fun e => h e.symm), List.getElem_set]
    by_cases h2 : i = k
    · rw [if_pos h2, if_pos h2.symm]
    · rw [if_neg h2, if_neg (fun e => h2 e.symm)]

variable (lt : E → E → Bool)
/-- None is ahead of its parent. -/
def hp (L : List E) : Prop := ∀ j (h : j < L.length), 0 < j → lt L[j] (L[(j - 1) / 2]'(by omega)) = false
/-- The same, but for the i-th, which goes up. -/
def hpU (L : List E) (i : Nat) : Prop :=
  (∀ j (h : j < L.length), 0 < j → j ≠ i → lt L[j] (L[(j - 1) / 2]'(by omega)) = false) ∧
  (∀ j (h : j < L.length), (h1 : 0 < j) → (h2 : (j - 1) / 2 = i) → (h3 : 0 < i) → lt L[j] (L[(i - 1) / 2]'(by omega)) = false)
/-- The same, but for the i-th, which goes down. -/
def hpD (L : List E) (i : Nat) : Prop :=
  (∀ j (h : j < L.length), 0 < j → (j - 1) / 2 ≠ i → lt L[j] (L[(j - 1) / 2]'(by omega)) = false) ∧
  (∀ j (h : j < L.length), (h1 : 0 < j) → (h2 : (j - 1) / 2 = i) → (h3 : 0 < i) → lt L[j] (L[(i - 1) / 2]'(by omega)) = false)
variable {lt}
theorem ge {L : List E} {a b : Nat} (e : a = b) (h : a < L.length) : L[a] = L[b]'(e ▸ h) := by subst e; rfl

theorem hp_nil : hp lt [] := fun j h => absurd h (Nat.not_lt_zero _)
theorem hpU_push {L : List E} (h : hp lt L) (e : E) : hpU lt (L ++ [e]) L.length := by
  refine ⟨fun j hj h0 hn => ?_, fun j hj h0 hp' h1 => ?_⟩
  · have hl : j < L.length := by simp at hj; omega
    rw [List.getElem_append_left hl, List.getElem_append_left (by omega)]
    exact h j hl h0
  · simp at hj; omega
theorem hpU_end {L : List E} {i : Nat} (h : hpU lt L i) (hi : i < L.length) (hx : i = 0 ∨ lt L[i] (L[(i - 1) / 2]'(by omega)) = false) : hp lt L := by
  intro j hj h0
  by_cases e : j = i
  · subst e
    rcases hx with hx | hx
    · omega
    · exact hx
  · exact h.1 j hj h0 e
theorem hpU_step {L : List E} {i : Nat} (o : Ord lt) (h : hpU lt L i) (hi : i < L.length) (h0 : 0 < i) (hx : lt L[i] (L[(i - 1) / 2]'(by omega)) = true) :
    hpU lt (sw L i ((i - 1) / 2) hi (by omega)) ((i - 1) / 2) := by
  obtain ⟨p, hp⟩ : ∃ p, p = (i - 1) / 2 := ⟨_, rfl⟩
  have hpl : p < L.length := by omega
  have e1 : sw L i ((i - 1) / 2) hi (by omega) = sw L i p hi hpl := by subst hp; rfl
  rw [e1, ← hp]
  have hx' : lt L[i] L[p] = true := by rw [← hx]; congr 1; exact ge hp hpl
  have hA : ∀ j (hj : j < L.length), 0 < j → j ≠ i → ∀ q (hq : q < L.length), q = (j - 1) / 2 → lt L[j] L[q] = false := fun j hj h1 h2 q hq e => by subst e; exact h.1 j hj h1 h2
  have hB : ∀ j (hj : j < L.length), 0 < j → (j - 1) / 2 = i → lt L[j] L[p] = false := fun j hj h1 h2 => by subst hp; exact h.2 j hj h1 h2 h0
  clear h hx e1
  refine ⟨fun j hj h1 hn => ?_, fun j hj h1 hpj h2 => ?_⟩
  · rw [sw_len] at hj
    rw [sw_get, sw_get, if_neg hn]
    by_cases e : j = i
    · rw [if_pos e, if_pos (by omega)]
      exact o.asym _ _ hx'
    · rw [if_neg e]
      by_cases e2 : (j - 1) / 2 = i
      · rw [if_neg (by omega), if_pos e2]; exact hB j hj h1 e2
      · by_cases e3 : (j - 1) / 2 = p
        · rw [if_pos e3]
          have := hA j hj h1 e p hpl e3.symm
          cases h3 : lt L[j] L[i] with
          | false => rfl
          | true => have := o.tt h3 hx'; simp_all
        · rw [if_neg e3, if_neg e2]; exact hA j hj h1 e _ _ rfl
  · rw [sw_len] at hj
    rw [sw_get, sw_get, if_neg (show ¬ j = p by omega), if_neg (show ¬ (p - 1) / 2 = p by omega), if_neg (show ¬ (p - 1) / 2 = i by omega)]
    have hpp : lt L[p] (L[(p - 1) / 2]'(by omega)) = false := hA p hpl h2 (by omega) _ _ rfl
    by_cases e : j = i
    · rw [if_pos e]; exact hpp
    · rw [if_neg e]; exact o.trans _ _ _ (hA j hj h1 e p hpl hpj.symm) hpp
theorem hpD_end {L : List E} {i : Nat} (h : hpD lt L i) (hx : ∀ j (hj : j < L.length) (h1 : 0 < j) (h2 : (j - 1) / 2 = i), lt L[j] (L[i]'(by omega)) = false) : hp lt L := by
  intro j hj h0
  by_cases e : (j - 1) / 2 = i
  · have := hx j hj h0 e
    rw [← this]; congr 1; exact ge e (by omega)
  · exact h.1 j hj h0 e
theorem hpD_step {L : List E} {i m : Nat} (o : Ord lt) (h : hpD lt L i) (hi : i < L.length) (hm : m < L.length) (hmi : (m - 1) / 2 = i) (h0 : 0 < m)
    (hlt : lt L[m] L[i] = true) (hl : ∀ j (hj : j < L.length), 0 < j → (j - 1) / 2 = i → lt L[j] L[m] = false) : hpD lt (sw L i m hi hm) m := by
  have hA : ∀ j (hj : j < L.length), 0 < j → ∀ q (hq : q < L.length), q = (j - 1) / 2 → q ≠ i → lt L[j] L[q] = false := fun j hj h1 q hq e hne => by subst e; exact h.1 j hj h1 hne
  have hB : ∀ j (hj : j < L.length), 0 < j → (j - 1) / 2 = i → 0 < i → ∀ q (hq : q < L.length), q = (i - 1) / 2 → lt L[j] L[q] = false := fun j hj h1 h2 h3 q hq e => by subst e; exact h.2 j hj h1 h2 h3
  clear h
  have him : i < m := by omega
  refine ⟨fun j hj h1 hn => ?_, fun j hj h1 hpj h2 => ?_⟩
  · rw [sw_len] at hj
    rw [sw_get, sw_get]
    by_cases e : (j - 1) / 2 = i
    · rw [if_neg (show ¬ (j - 1) / 2 = m by omega), if_pos e]
      by_cases e2 : j = m
      · rw [if_pos e2]; exact o.asym _ _ hlt
      · rw [if_neg e2, if_neg (show ¬ j = i by omega)]; exact hl j hj h1 e
    · rw [if_neg hn, if_neg e, if_neg (show ¬ j = m by intro e2; subst e2; exact e hmi)]
      by_cases e3 : j = i
      · rw [if_pos e3]; exact hB m hm h0 hmi (by omega) _ _ (by rw [e3])
      · rw [if_neg e3]; exact hA j hj h1 _ _ rfl e
  · rw [sw_len] at hj
    rw [sw_get, sw_get, if_neg (show ¬ j = m by omega), if_neg (show ¬ j = i by omega), if_neg (show ¬ (m - 1) / 2 = m by omega), if_pos hmi]
    exact hA j hj h1 m hm hpj.symm (by omega)
/-- What the first one takes away: the last one goes to the front, and down. -/
theorem hpD_start {L : List E} (h : hp lt L) (hn : 0 < L.length) : hpD lt ((sw L 0 (L.length - 1) hn (by omega)).take (L.length - 1)) 0 := by
  refine ⟨fun j hj h1 hne => ?_, fun j hj h1 e h2 => by omega⟩
  simp only [List.length_take, sw_len] at hj
  rw [List.getElem_take, List.getElem_take, sw_get, sw_get, if_neg (by omega), if_neg (by omega), if_neg (by omega), if_neg hne]
  exact h j (by omega) h1
theorem take_perm {L : List E} (hn : 0 < L.length) : L.Perm (L[0] :: (sw L 0 (L.length - 1) hn (by omega)).take (L.length - 1)) := by
  have hs := sw_len L 0 (L.length - 1) hn (by omega)
  have e : (sw L 0 (L.length - 1) hn (by omega)) = (sw L 0 (L.length - 1) hn (by omega)).take (L.length - 1) ++ [L[0]] := by
    conv => lhs; rw [← List.take_append_drop (L.length - 1) (sw L 0 (L.length - 1) hn (by omega))]
    congr 1
    rw [List.drop_eq_getElem_cons (by omega), sw_get, if_pos rfl, List.drop_of_length_le (by omega)]
  refine (sw_perm L 0 (L.length - 1) hn (by omega)).symm.trans ?_
  conv => lhs; rw [e]
  exact List.perm_append_comm
theorem hp_root {L : List E} (o : Ord lt) (h : hp lt L) (hn : 0 < L.length) : ∀ x ∈ L, lt x L[0] = false := by
  intro x hx
  obtain ⟨j, hj, rfl⟩ := List.getElem_of_mem hx
  induction j using Nat.strongRecOn with
  | _ j ih =>
    by_cases h0 : j = 0
    · subst h0; exact o.irr _
    · exact o.trans _ _ _ (h j hj (by omega)) (ih ((j - 1) / 2) (by omega) (by omega) (List.getElem_mem _))
end Go.Proofs.Ytldlpbfncgcimaa.Hp
