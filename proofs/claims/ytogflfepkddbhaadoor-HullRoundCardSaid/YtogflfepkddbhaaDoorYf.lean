/- the hull of points: the way along one side, what is on its left; that there is one alone; what is farthest -/
import Derived.Test.YtogflfepkddbhaaDoorK
namespace Go.Proofs.YtogflfepkddbhaaDoor.Hp
set_option linter.unusedVariables false
/-- A point. -/
abbrev Pt := Int × Int
/-- Twice the area of a b c. -/
def cz (a b c : Pt) : Int := (b.1 - a.1) * (c.2 - a.2) - (b.2 - a.2) * (c.1 - a.1)
/-- A linear order of points. -/
def uu (A B : Int) (p : Pt) : Int := A * p.1 + B * p.2

theorem plk (A B : Int) (o e d w : Pt) : cz o d w * (uu A B e - uu A B o) = cz o e w * (uu A B d - uu A B o) - cz o e d * (uu A B w - uu A B o) := by
  unfold cz uu; grind
theorem cz_turn (a b c : Pt) : cz b c a = cz a b c := by unfold cz; grind
theorem cz_swap (a b c : Pt) : cz b a c = -cz a b c := by unfold cz; grind
theorem cz_swap2 (a b c : Pt) : cz a c b = -cz a b c := by unfold cz; grind
theorem cz_aab (a b : Pt) : cz a a b = 0 := by unfold cz; grind
theorem cz_aba (a b : Pt) : cz a b a = 0 := by unfold cz; grind
theorem cz_abb (a b : Pt) : cz a b b = 0 := by unfold cz; grind

theorem pos_mul {x y : Int} (h : 0 < x * y) (hy : 0 < y) : 0 < x := by
  rcases Int.lt_trichotomy x 0 with h1 | h1 | h1
  · have := Int.mul_neg_of_neg_of_pos h1 hy; omega
  · subst h1; simp at h
  · exact h1
theorem nn_mul {x y : Int} (h : 0 ≤ x * y) (hy : 0 < y) : 0 ≤ x := by
  rcases Int.lt_or_le x 0 with h1 | h1
  · have := Int.mul_neg_of_neg_of_pos h1 hy; omega
  · exact h1

/-- b behind a, d behind b: p ahead of b on the left of a b is on the left of b d. -/
theorem left_go {A B : Int} {a b q p : Pt} (hab : uu A B a < uu A B b) (hbq : uu A B b < uu A B q) (hp : uu A B p < uu A B b) (h1 : 0 < cz a b q) (h2 : 0 ≤ cz a b p) : 0 < cz b q p := by
  have h := plk A B b a q p
  have e1 : cz b a p = -cz a b p := cz_swap a b p
  have e2 : cz b a q = -cz a b q := cz_swap a b q
  rw [e1, e2] at h
  have m1 : 0 ≤ cz a b p * (uu A B q - uu A B b) := Int.mul_nonneg h2 (by omega)
  have m2 : 0 < cz a b q * (uu A B b - uu A B p) := Int.mul_pos h1 (by omega)
  have e3 : cz b q p * (uu A B b - uu A B a) = cz a b p * (uu A B q - uu A B b) + cz a b q * (uu A B b - uu A B p) := by
    have : cz b q p * (uu A B b - uu A B a) = -(cz b q p * (uu A B a - uu A B b)) := by grind
    rw [this, h]; grind
  exact pos_mul (y := uu A B b - uu A B a) (by omega) (by omega)
/-- Two turns to the left, and on: the first edge has the last point on its left. -/
theorem left_on {A B : Int} {o a b q : Pt} (h0 : uu A B o < uu A B a) (hab : uu A B a < uu A B b) (hbq : uu A B b < uu A B q) (h1 : 0 < cz o a b) (h2 : 0 < cz a b q) : 0 < cz o a q := by
  have h := plk A B a o b q
  -- cz a b q * (u o - u a) = cz a o q * (u b - u a) - cz a o b * (u q - u a)
  rw [cz_swap o a q, cz_swap o a b] at h
  have m1 : 0 < cz a b q * (uu A B a - uu A B o) := Int.mul_pos h2 (by omega)
  have m2 : 0 < cz o a b * (uu A B q - uu A B a) := Int.mul_pos h1 (by omega)
  have e3 : cz o a q * (uu A B b - uu A B a) = cz a b q * (uu A B a - uu A B o) + cz o a b * (uu A B q - uu A B a) := by
    have : cz a b q * (uu A B a - uu A B o) = -(cz a b q * (uu A B o - uu A B a)) := by grind
    rw [this, h]; grind
  exact pos_mul (y := uu A B b - uu A B a) (by omega) (by omega)
/-- b is popped: what is behind b and left of b q is left of a q. -/
theorem pop_far {A B : Int} {a b q p : Pt} (hab : uu A B a < uu A B b) (hbq : uu A B b < uu A B q) (hp : uu A B b ≤ uu A B p) (hpq : uu A B p ≤ uu A B q) (h1 : cz a b q ≤ 0) (h2 : 0 ≤ cz b q p) : 0 ≤ cz a q p := by
  have e : cz a q p * (uu A B q - uu A B b) = cz b q p * (uu A B q - uu A B a) + (-cz a b q) * (uu A B q - uu A B p) := by
    unfold cz uu; grind
  have m1 : 0 ≤ cz b q p * (uu A B q - uu A B a) := Int.mul_nonneg h2 (by omega)
  have m2 : 0 ≤ (-cz a b q) * (uu A B q - uu A B p) := Int.mul_nonneg (by omega) (by omega)
  exact nn_mul (y := uu A B q - uu A B b) (by omega) (by omega)
/-- b is popped: what is between a and b and left of a b is left of a q. -/
theorem pop_near {A B : Int} {a b q p : Pt} (hab : uu A B a < uu A B b) (haq : uu A B a < uu A B q) (hp : uu A B a ≤ uu A B p) (h1 : cz a b q ≤ 0) (h2 : 0 ≤ cz a b p) : 0 ≤ cz a q p := by
  have h := plk A B a b q p
  have m1 : 0 ≤ cz a b p * (uu A B q - uu A B a) := Int.mul_nonneg h2 (by omega)
  have m2 : 0 ≤ (-cz a b q) * (uu A B p - uu A B a) := Int.mul_nonneg (by omega) (by omega)
  have e3 : cz a q p * (uu A B b - uu A B a) = cz a b p * (uu A B q - uu A B a) + (-cz a b q) * (uu A B p - uu A B a) := by rw [h]; grind
  exact nn_mul (y := uu A B b - uu A B a) (by omega) (by omega)

/-- From the top: what does not turn to the left goes. -/
def popS (q : Pt) : List Pt → List Pt
  | b :: a :: r => if 0 < cz a b q then b :: a :: r else popS q (a :: r)
  | l => l
/-- The stack behind l. -/
def chS : List Pt → List Pt → List Pt
  | st, [] => st
  | st, q :: l => chS (q :: popS q st) l

/-- An edge from a to b: all of l is on its left, or between both. -/
def SupU (A B : Int) (l : List Pt) (a b : Pt) : Prop := uu A B a < uu A B b ∧ ∀ p ∈ l, 0 < cz a b p ∨ (cz a b p = 0 ∧ uu A B a ≤ uu A B p ∧ uu A B p ≤ uu A B b)
/-- All edges of a stack. -/
def Ch (A B : Int) (l : List Pt) : List Pt → Prop
  | [] => True
  | [_] => True
  | b :: a :: r => SupU A B l a b ∧ Ch A B l (a :: r)

theorem Ch.edge_q {A B : Int} {l : List Pt} {q : Pt} : ∀ {st : List Pt}, Ch A B l st → (∀ p ∈ st, p ∈ l) → (∀ p ∈ l, uu A B p < uu A B q) → (∀ b a r, st = b :: a :: r → 0 < cz a b q) → Ch A B (q :: l) st
  | [], _, _, _, _ => trivial
  | [_], _, _, _, _ => trivial
  | b :: a :: r, h, hm, hq, ht => by
    have t := ht b a r rfl
    have hb := hq b (hm b (by simp))
    refine ⟨⟨h.1.1, ?_⟩, Ch.edge_q h.2 (fun p hp => hm p (by simp [hp])) hq ?_⟩
    · intro p hp
      rcases List.mem_cons.1 hp with rfl | hp
      · exact .inl t
      · exact h.1.2 p hp
    · intro a' o r' e
      injection e with e1 e2
      subst e1 e2
      have ho := h.2.1
      have hb' := ho.2 b (hm b (by simp))
      have lt := h.1.1
      rcases hb' with h1 | ⟨_, _, h3⟩
      · exact left_on ho.1 lt hb h1 t
      · omega
theorem Ch.pop {A B : Int} {l : List Pt} {q : Pt} (hq : ∀ p ∈ l, uu A B p < uu A B q) : ∀ {st : List Pt}, Ch A B l st → (∀ p ∈ st, p ∈ l) → (∀ b, st.head? = some b → ∀ p ∈ l, uu A B b ≤ uu A B p → 0 ≤ cz b q p) → (∀ b, st.getLast? = some b → ∀ p ∈ l, uu A B b ≤ uu A B p) →
    Ch A B (q :: l) (q :: popS q st)
  | [], _, _, _, _ => by simp only [popS, Ch]
  | [b], _, hm, ht, hl => by
    have hb := hq b (hm b (by simp))
    simp only [popS, Ch, and_true]
    refine ⟨hb, fun p hp => ?_⟩
    rcases List.mem_cons.1 hp with rfl | hp
    · exact .inr ⟨cz_abb _ _, by omega, by omega⟩
    · have h1 := hl b rfl p hp
      have h2 := ht b rfl p hp h1
      have h3 := hq p hp
      rcases Int.lt_or_eq_of_le h2 with h | h
      · exact .inl h
      · exact .inr ⟨h.symm, h1, by omega⟩
  | b :: a :: r, h, hm, ht, hl => by
    have hb := hq b (hm b (by simp))
    have ha := hq a (hm a (by simp))
    by_cases t : 0 < cz a b q
    · have e : popS q (b :: a :: r) = b :: a :: r := by rw [popS, if_pos t]
      rw [e]
      refine ⟨⟨hb, fun p hp => ?_⟩, Ch.edge_q h hm hq (fun b' a' r' e => by injection e with e1 e2; injection e2 with e2 e3; subst e1 e2; exact t)⟩
      rcases List.mem_cons.1 hp with rfl | hp
      · exact .inr ⟨cz_abb _ _, by omega, by omega⟩
      · have h3 := hq p hp
        by_cases hpb : uu A B p < uu A B b
        · refine .inl (left_go h.1.1 hb hpb t ?_)
          rcases h.1.2 p hp with h | h <;> omega
        · have h2 := ht b rfl p hp (by omega)
          rcases Int.lt_or_eq_of_le h2 with h | h
          · exact .inl h
          · exact .inr ⟨h.symm, by omega, by omega⟩
    · have e : popS q (b :: a :: r) = popS q (a :: r) := by rw [popS, if_neg t]
      rw [e]
      refine Ch.pop hq h.2 (fun p hp => hm p (by simp [hp])) ?_ (fun c hc => hl c (by rw [List.getLast?_cons_cons]; exact hc))
      intro a' e p hp hap
      simp at e; subst e
      have h3 := hq p hp
      by_cases hpb : uu A B p < uu A B b
      · refine pop_near h.1.1 ha hap (by omega) ?_
        rcases h.1.2 p hp with h | h <;> omega
      · exact pop_far h.1.1 hb (by omega) (by omega) (by omega) (ht b rfl p hp (by omega))

theorem popS_mem {q : Pt} : ∀ {st : List Pt} {p : Pt}, p ∈ popS q st → p ∈ st
  | [], p, h => by simp [popS] at h
  | [b], p, h => by simpa [popS] using h
  | b :: a :: r, p, h => by
    rw [popS] at h
    split at h
    · exact h
    · exact List.mem_cons_of_mem _ (popS_mem h)
theorem popS_last {q : Pt} : ∀ {st : List Pt}, (popS q st).getLast? = st.getLast?
  | [] => rfl
  | [b] => rfl
  | b :: a :: r => by
    rw [popS]
    split
    · rfl
    · rw [popS_last, List.getLast?_cons_cons]
theorem popS_nil {q : Pt} : ∀ {st : List Pt}, popS q st = [] → st = []
  | [], _ => rfl
  | [b], h => by simp [popS] at h
  | b :: a :: r, h => by
    rw [popS] at h
    split at h
    · exact h
    · have := popS_nil h; cases this

/-- What holds of the stack behind each point of a row in order. -/
structure Stk (A B : Int) (l st : List Pt) : Prop where
  ch : Ch A B l st
  mem : ∀ p ∈ st, p ∈ l
  top : ∀ b, st.head? = some b → ∀ p ∈ l, uu A B p ≤ uu A B b
  low : ∀ b, st.getLast? = some b → ∀ p ∈ l, uu A B b ≤ uu A B p
  ne : l ≠ [] → st ≠ []
theorem Stk.push {A B : Int} {l st : List Pt} {q : Pt} (h : Stk A B l st) (hq : ∀ p ∈ l, uu A B p < uu A B q) (inj : ∀ p ∈ l, ∀ r ∈ l, uu A B p = uu A B r → p = r) : Stk A B (q :: l) (q :: popS q st) where
  ch := Ch.pop hq h.ch h.mem (fun b hb p hp hle => by
    have h1 := h.top b hb p hp
    have hbm : b ∈ l := h.mem b (by cases st with | nil => cases hb | cons x r => simp at hb; simp [hb])
    have e := inj p hp b hbm (by omega)
    subst e
    rw [cz_aba]; exact Int.le_refl _) h.low
  mem := fun p hp => by
    rcases List.mem_cons.1 hp with rfl | hp
    · simp
    · exact List.mem_cons_of_mem _ (h.mem p (popS_mem hp))
  top := fun b hb p hp => by
    simp at hb; subst hb
    rcases List.mem_cons.1 hp with rfl | hp
    · exact Int.le_refl _
    · exact Int.le_of_lt (hq p hp)
  low := fun b hb p hp => by
    cases hst : popS q st with
    | nil =>
      rw [hst] at hb; simp at hb; subst hb
      have hn := popS_nil hst
      have hl : l = [] := Classical.byContradiction fun hn' => h.ne hn' hn
      subst hl
      simp at hp; subst hp; exact Int.le_refl _
    | cons x r =>
      rw [hst, List.getLast?_cons_cons, ← hst, popS_last] at hb
      have hbm : b ∈ l := h.mem b (List.mem_of_getLast? hb)
      rcases List.mem_cons.1 hp with rfl | hp
      · exact Int.le_of_lt (hq b hbm)
      · exact h.low b hb p hp
  ne := fun _ h => by cases h
theorem Stk.run {A B : Int} : ∀ (m l st : List Pt), Stk A B l st → (∀ p ∈ l, ∀ q ∈ m, uu A B p < uu A B q) → m.Pairwise (fun p q => uu A B p < uu A B q) → (∀ p ∈ l, ∀ r ∈ l, uu A B p = uu A B r → p = r) → Stk A B (m.reverse ++ l) (chS st m)
  | [], l, st, h, _, _, _ => by simpa [chS] using h
  | q :: m, l, st, h, hq, hm, inj => by
    have hm' := List.pairwise_cons.1 hm
    have h1 := h.push (q := q) (fun p hp => hq p hp q (by simp)) inj
    have h2 := Stk.run m (q :: l) _ h1 (fun p hp r hr => by
      rcases List.mem_cons.1 hp with rfl | hp
      · exact hm'.1 r hr
      · exact hq p hp r (by simp [hr])) hm'.2 (fun p hp r hr e => by
      rcases List.mem_cons.1 hp with h3 | hp
      · rcases List.mem_cons.1 hr with h4 | hr
        · rw [h3, h4]
        · have := hq r hr p (by simp [h3]); omega
      · rcases List.mem_cons.1 hr with h4 | hr
        · have := hq p hp r (by simp [h4]); omega
        · exact inj p hp r hr e)
    simpa [chS] using h2
theorem Stk.nil {A B : Int} : Stk A B [] [] where
  ch := trivial
  mem := by simp
  top := by simp
  low := by simp
  ne := by simp
/-- The way from the first to the last of a row in order. -/
def chain (l : List Pt) : List Pt := (chS [] l).reverse
theorem chain_stk {A B : Int} {l : List Pt} (h : l.Pairwise (fun p q => uu A B p < uu A B q)) : Stk A B l.reverse (chS [] l) := by
  simpa using Stk.run l [] [] Stk.nil (fun _ h => by cases h) h (fun _ h => by cases h)

theorem Ch.at {A B : Int} {l : List Pt} : ∀ {st : List Pt}, Ch A B l st → ∀ j, j + 1 < st.length → SupU A B l (st.getD (j + 1) (0, 0)) (st.getD j (0, 0))
  | [], _, j, hj => by simp at hj
  | [_], _, j, hj => by simp at hj
  | b :: a :: r, h, 0, _ => by simpa using h.1
  | b :: a :: r, h, j + 1, hj => by
    have := Ch.at h.2 j (by simpa using hj)
    simpa using this
theorem SupU.mem {A B : Int} {l m : List Pt} {a b : Pt} (h : SupU A B l a b) (hm : ∀ p, p ∈ m → p ∈ l) : SupU A B m a b := ⟨h.1, fun p hp => h.2 p (hm p hp)⟩
theorem getD_rev (st : List Pt) (i : Nat) (h : i < st.length) : st.reverse.getD i (0, 0) = st.getD (st.length - 1 - i) (0, 0) := by
  rw [List.getD_eq_getElem?_getD, List.getD_eq_getElem?_getD, List.getElem?_reverse h]
theorem getD_mem (st : List Pt) (i : Nat) (h : i < st.length) : st.getD i (0, 0) ∈ st := by
  rw [List.getD_eq_getElem?_getD, List.getElem?_eq_getElem h]; simp
theorem mem_getD {st : List Pt} {p : Pt} (h : p ∈ st) : ∃ i, i < st.length ∧ st.getD i (0, 0) = p := by
  obtain ⟨i, hi, e⟩ := List.getElem_of_mem h
  exact ⟨i, hi, by rw [List.getD_eq_getElem?_getD, List.getElem?_eq_getElem hi]; exact e⟩

theorem chain_at {A B : Int} {l : List Pt} (h : l.Pairwise (fun p q => uu A B p < uu A B q)) (i : Nat) (hi : i + 1 < (chain l).length) : SupU A B l ((chain l).getD i (0, 0)) ((chain l).getD (i + 1) (0, 0)) := by
  have hl : (chain l).length = (chS [] l).length := List.length_reverse
  have hs := (chain_stk h).ch.at ((chS [] l).length - 1 - (i + 1)) (by omega)
  rw [chain, getD_rev _ i (by omega), getD_rev _ (i + 1) (by omega)]
  have e : (chS [] l).length - 1 - (i + 1) + 1 = (chS [] l).length - 1 - i := by omega
  rw [e] at hs
  exact hs.mem (fun p hp => List.mem_reverse.2 hp)
theorem chain_mem {A B : Int} {l : List Pt} (h : l.Pairwise (fun p q => uu A B p < uu A B q)) {p : Pt} (hp : p ∈ chain l) : p ∈ l := List.mem_reverse.1 ((chain_stk h).mem p (List.mem_reverse.1 hp))
theorem u_inj {A B : Int} {l : List Pt} (h : l.Pairwise (fun p q => uu A B p < uu A B q)) {p q : Pt} (hp : p ∈ l) (hq : q ∈ l) (e : uu A B p = uu A B q) : p = q := by
  obtain ⟨i, hi, rfl⟩ := List.getElem_of_mem hp
  obtain ⟨j, hj, rfl⟩ := List.getElem_of_mem hq
  have hP := List.pairwise_iff_getElem.1 h
  rcases Nat.lt_trichotomy i j with h1 | h1 | h1
  · have := hP i j hi hj h1; omega
  · subst h1; rfl
  · have := hP j i hj hi h1; omega
theorem u_mono {A B : Int} {l : List Pt} (h : l.Pairwise (fun p q => uu A B p < uu A B q)) (i j : Nat) (hij : i < j) (hj : j < l.length) : uu A B (l.getD i (0, 0)) < uu A B (l.getD j (0, 0)) := by
  have := List.pairwise_iff_getElem.1 h i j (by omega) hj hij
  rwa [List.getD_eq_getElem?_getD, List.getD_eq_getElem?_getD, List.getElem?_eq_getElem (by omega), List.getElem?_eq_getElem hj]
theorem chain_pos {A B : Int} {l : List Pt} (h : l.Pairwise (fun p q => uu A B p < uu A B q)) (hn : l ≠ []) : 0 < (chain l).length := by
  have := (chain_stk h).ne (by simpa using hn)
  have hl : (chain l).length = (chS [] l).length := List.length_reverse
  rw [hl]
  exact List.length_pos_iff.2 this
theorem chain_first {A B : Int} {l : List Pt} (h : l.Pairwise (fun p q => uu A B p < uu A B q)) (hn : l ≠ []) : (chain l).getD 0 (0, 0) = l.getD 0 (0, 0) := by
  have hp := chain_pos h hn
  have hm := getD_mem _ 0 hp
  have hl : (chain l).length = (chS [] l).length := List.length_reverse
  have hlp : 0 < l.length := List.length_pos_iff.2 hn
  have e : (chS [] l).getLast? = some ((chain l).getD 0 (0, 0)) := by
    rw [chain, getD_rev _ 0 (by omega), List.getLast?_eq_getElem?, Nat.sub_zero, List.getD_eq_getElem?_getD, List.getElem?_eq_getElem (by omega)]
    rfl
  have h1 := (chain_stk h).low _ e (l.getD 0 (0, 0)) (List.mem_reverse.2 (getD_mem _ 0 hlp))
  obtain ⟨i, hi, e2⟩ := mem_getD (chain_mem h hm)
  rcases Nat.eq_zero_or_pos i with rfl | hi0
  · exact e2.symm
  · have := u_mono h 0 i hi0 hi; rw [e2] at this; omega
theorem chain_last {A B : Int} {l : List Pt} (h : l.Pairwise (fun p q => uu A B p < uu A B q)) (hn : l ≠ []) : (chain l).getD ((chain l).length - 1) (0, 0) = l.getD (l.length - 1) (0, 0) := by
  have hp := chain_pos h hn
  have hm := getD_mem (chain l) ((chain l).length - 1) (by omega)
  have hl : (chain l).length = (chS [] l).length := List.length_reverse
  have hlp : 0 < l.length := List.length_pos_iff.2 hn
  have e : (chS [] l).head? = some ((chain l).getD ((chain l).length - 1) (0, 0)) := by
    have e0 : (chS [] l).length - 1 - ((chain l).length - 1) = 0 := by omega
    rw [chain, getD_rev _ _ (by rw [List.length_reverse]; omega)]
    rw [chain] at e0
    rw [e0, List.head?_eq_getElem?, List.getD_eq_getElem?_getD, List.getElem?_eq_getElem (by omega)]
    rfl
  have h1 := (chain_stk h).top _ e (l.getD (l.length - 1) (0, 0)) (List.mem_reverse.2 (getD_mem _ _ (by omega)))
  obtain ⟨i, hi, e2⟩ := mem_getD (chain_mem h hm)
  by_cases hi0 : i = l.length - 1
  · rw [← e2, hi0]
  · have := u_mono h i (l.length - 1) (by omega) (by omega); rw [e2] at this; omega
theorem chain_two {A B : Int} {l : List Pt} (h : l.Pairwise (fun p q => uu A B p < uu A B q)) (h2 : 2 ≤ l.length) : 2 ≤ (chain l).length := by
  have hn : l ≠ [] := fun e => by rw [e] at h2; simp at h2
  have hp := chain_pos h hn
  have h1 := chain_first h hn
  have h3 := chain_last h hn
  by_cases hl : (chain l).length = 1
  · rw [hl, Nat.sub_self, h1] at h3
    have := u_mono h 0 (l.length - 1) (by omega) (by omega)
    rw [h3] at this; omega
  · omega
theorem chain_mono {A B : Int} {l : List Pt} (h : l.Pairwise (fun p q => uu A B p < uu A B q)) (i j : Nat) (hij : i < j) (hj : j < (chain l).length) : uu A B ((chain l).getD i (0, 0)) < uu A B ((chain l).getD j (0, 0)) := by
  induction j with
  | zero => omega
  | succ j ih =>
    have h1 := (chain_at h j hj).1
    rcases Nat.lt_or_eq_of_le (Nat.lt_succ_iff.1 hij) with h2 | h2
    · have := ih h2 (by omega); omega
    · rw [h2]; exact h1
/-- What lies within the chain is strictly below its ends' line. -/
theorem chain_below {A B : Int} {l : List Pt} (h : l.Pairwise (fun p q => uu A B p < uu A B q)) (i : Nat) (h0 : 0 < i) (hi : i + 1 < (chain l).length) : cz (l.getD 0 (0, 0)) (l.getD (l.length - 1) (0, 0)) ((chain l).getD i (0, 0)) < 0 := by
  have hn : l ≠ [] := fun e => by rw [e] at hi; simp [chain, chS] at hi
  have hlp : 0 < l.length := List.length_pos_iff.2 hn
  have f1 := chain_first h hn
  have f2 := chain_last h hn
  obtain ⟨hlt, hs⟩ := chain_at h i hi
  have m0 := chain_mono h 0 i h0 (by omega)
  have hF := hs (l.getD 0 (0, 0)) (getD_mem _ 0 hlp)
  have hL := hs (l.getD (l.length - 1) (0, 0)) (getD_mem _ _ (by omega))
  have m1 := chain_mono h i ((chain l).length - 1) (by omega) (by omega)
  rw [f1] at m0
  rw [f2] at m1
  generalize (chain l).getD i (0, 0) = c at *
  generalize (chain l).getD (i + 1) (0, 0) = e at *
  generalize l.getD 0 (0, 0) = f at *
  generalize l.getD (l.length - 1) (0, 0) = g at *
  have hF' : 0 < cz c e f := by rcases hF with h | h <;> omega
  have hL' : 0 ≤ cz c e g := by rcases hL with h | h <;> omega
  have hp := plk A B c e f g
  -- cz c f g * (u e - u c) = cz c e g * (u f - u c) - cz c e f * (u g - u c)
  have q1 : 0 < cz c e f * (uu A B g - uu A B c) := Int.mul_pos hF' (by omega)
  have q2 : 0 ≤ cz c e g * (uu A B c - uu A B f) := Int.mul_nonneg hL' (by omega)
  have q3 : (-cz f g c) * (uu A B e - uu A B c) = cz c e f * (uu A B g - uu A B c) + cz c e g * (uu A B c - uu A B f) := by
    rw [show cz f g c = cz c f g by rw [cz_turn]]
    have : (-cz c f g) * (uu A B e - uu A B c) = -(cz c f g * (uu A B e - uu A B c)) := by grind
    rw [this, hp]; grind
  have := pos_mul (x := -cz f g c) (y := uu A B e - uu A B c) (by omega) (by omega)
  omega

/-- p is between a and b. -/
def bw (a p b : Pt) : Prop := ((a.1 ≤ p.1 ∧ p.1 ≤ b.1) ∨ (b.1 ≤ p.1 ∧ p.1 ≤ a.1)) ∧ ((a.2 ≤ p.2 ∧ p.2 ≤ b.2) ∨ (b.2 ≤ p.2 ∧ p.2 ≤ a.2))
theorem bw_swap {a p b : Pt} (h : bw a p b) : bw b p a := by unfold bw at *; omega
theorem bw_anti {a b c : Pt} (h1 : bw a c b) (h2 : bw a b c) : b = c := by
  unfold bw at *
  have e1 : b.1 = c.1 := by omega
  have e2 : b.2 = c.2 := by omega
  exact Prod.ext e1 e2
theorem bw1 {e w U V : Int} (hV : 0 < V) (h0 : 0 ≤ U) (h1 : U ≤ V) (he : w * V = e * U) : (0 ≤ w ∧ w ≤ e) ∨ (e ≤ w ∧ w ≤ 0) := by
  rcases Int.le_total 0 e with h | h
  · refine .inl ⟨nn_mul (y := V) ?_ hV, ?_⟩
    · rw [he]; exact Int.mul_nonneg h h0
    · have : 0 ≤ (e - w) * V := by
        have e2 : (e - w) * V = e * (V - U) := by grind
        rw [e2]; exact Int.mul_nonneg h (by omega)
      have := nn_mul this hV; omega
  · refine .inr ⟨?_, ?_⟩
    · have : 0 ≤ (w - e) * V := by
        have e2 : (w - e) * V = (-e) * (V - U) := by grind
        rw [e2]; exact Int.mul_nonneg (by omega) (by omega)
      have := nn_mul this hV; omega
    · have : 0 ≤ (-w) * V := by
        have e2 : (-w) * V = (-e) * U := by grind
        rw [e2]; exact Int.mul_nonneg (by omega) h0
      have := nn_mul this hV; omega
theorem bw_of_u {A B : Int} {a b p : Pt} (h0 : cz a b p = 0) (h : uu A B a < uu A B b) (h1 : uu A B a ≤ uu A B p) (h2 : uu A B p ≤ uu A B b) : bw a p b := by
  have e1 : (p.1 - a.1) * (uu A B b - uu A B a) = (b.1 - a.1) * (uu A B p - uu A B a) := by
    have : (b.1 - a.1) * (uu A B p - uu A B a) - (p.1 - a.1) * (uu A B b - uu A B a) = B * cz a b p := by unfold cz uu; grind
    rw [h0] at this; omega
  have e2 : (p.2 - a.2) * (uu A B b - uu A B a) = (b.2 - a.2) * (uu A B p - uu A B a) := by
    have : (b.2 - a.2) * (uu A B p - uu A B a) - (p.2 - a.2) * (uu A B b - uu A B a) = -(A * cz a b p) := by unfold cz uu; grind
    rw [h0] at this; omega
  have b1 := bw1 (by omega) (by omega) (by omega) e1
  have b2 := bw1 (by omega) (by omega) (by omega) e2
  unfold bw
  omega
/-- An edge that has all of l on its left, or in it. -/
def SupE (l : List Pt) (a b : Pt) : Prop := a ≠ b ∧ ∀ p ∈ l, 0 < cz a b p ∨ (cz a b p = 0 ∧ bw a p b)
theorem SupU.e {A B : Int} {l : List Pt} {a b : Pt} (h : SupU A B l a b) : SupE l a b :=
  ⟨fun e => by have := h.1; rw [e] at this; omega, fun p hp => (h.2 p hp).imp id (fun ⟨h1, h2, h3⟩ => ⟨h1, bw_of_u h1 h.1 h2 h3⟩)⟩

/-- The least convex ring of l: n corners H. -/
structure HullOK (l : List Pt) (n : Nat) (H : Nat → Pt) : Prop where
  pos : 1 ≤ n
  mem : ∀ i, i < n → H i ∈ l
  inj : ∀ i j, i < n → j < n → H i = H j → i = j
  one : n = 1 → ∀ p ∈ l, p = H 0
  edge : 2 ≤ n → ∀ i, i < n → SupE l (H i) (H ((i + 1) % n))
  low : ∀ p ∈ l, (H 0).1 < p.1 ∨ ((H 0).1 = p.1 ∧ (H 0).2 ≤ p.2)

/-- The hull of a row in order without a point twice. -/
def hullS (s : List Pt) : List Pt := if s.length = 1 then s else (chain s).dropLast ++ (chain s.reverse).dropLast

theorem getD_dropLast (l : List Pt) (i : Nat) (h : i + 1 < l.length) : l.dropLast.getD i (0, 0) = l.getD i (0, 0) := by
  rw [List.getD_eq_getElem?_getD, List.getD_eq_getElem?_getD, List.getElem?_dropLast, if_pos (by omega)]
theorem getD_app_left (a b : List Pt) (i : Nat) (h : i < a.length) : (a ++ b).getD i (0, 0) = a.getD i (0, 0) := by
  rw [List.getD_eq_getElem?_getD, List.getD_eq_getElem?_getD, List.getElem?_append_left h]
theorem getD_app_right (a b : List Pt) (i : Nat) : (a ++ b).getD (a.length + i) (0, 0) = b.getD i (0, 0) := by
  rw [List.getD_eq_getElem?_getD, List.getD_eq_getElem?_getD, List.getElem?_append_right (by omega)]
  congr 2; omega

theorem uu_neg (A B : Int) (p : Pt) : uu (-A) (-B) p = -uu A B p := by unfold uu; grind
theorem pw_rev {A B : Int} {l : List Pt} (h : l.Pairwise (fun p q => uu A B p < uu A B q)) : l.reverse.Pairwise (fun p q => uu (-A) (-B) p < uu (-A) (-B) q) := by
  rw [List.pairwise_reverse]
  exact h.imp (fun {a b} hab => by rw [uu_neg, uu_neg]; omega)

theorem hullS_ok {A B : Int} {s : List Pt} (h : s.Pairwise (fun p q => uu A B p < uu A B q)) (hn : s ≠ []) (hlex : ∀ p ∈ s, ∀ q ∈ s, uu A B p ≤ uu A B q → p.1 < q.1 ∨ (p.1 = q.1 ∧ p.2 ≤ q.2)) :
    HullOK s (hullS s).length (fun i => (hullS s).getD i (0, 0)) := by
  have hp : 0 < s.length := List.length_pos_iff.2 hn
  have hmin : ∀ p ∈ s, uu A B (s.getD 0 (0, 0)) ≤ uu A B p := fun p hp' => by
    obtain ⟨i, hi, rfl⟩ := mem_getD hp'
    rcases Nat.eq_zero_or_pos i with rfl | h0
    · exact Int.le_refl _
    · exact Int.le_of_lt (u_mono h 0 i h0 hi)
  by_cases h1 : s.length = 1
  · have e : hullS s = s := by unfold hullS; rw [if_pos h1]
    rw [e]
    refine ⟨by omega, fun i hi => getD_mem _ i hi, fun i j hi hj _ => by omega, fun _ p hp' => ?_, fun h2 => by omega, fun p hp' => hlex _ (getD_mem _ 0 hp) p hp' (hmin p hp')⟩
    obtain ⟨i, hi, rfl⟩ := mem_getD hp'
    have : i = 0 := by omega
    subst this; rfl
  · have h2 : 2 ≤ s.length := by omega
    have hr := pw_rev h
    have hnr : s.reverse ≠ [] := by simpa using hn
    have c2 := chain_two h h2
    have d2 := chain_two hr (by simpa using h2)
    have cf := chain_first h hn
    have cl := chain_last h hn
    have df := chain_first hr hnr
    have dl := chain_last hr hnr
    have e0 : s.reverse.getD 0 (0, 0) = s.getD (s.length - 1) (0, 0) := by rw [getD_rev _ 0 hp]; rfl
    have e9 : s.reverse.getD (s.reverse.length - 1) (0, 0) = s.getD 0 (0, 0) := by
      rw [List.length_reverse, getD_rev _ _ (by omega)]; congr 1; omega
    rw [e0] at df
    rw [e9] at dl
    have hs : hullS s = (chain s).dropLast ++ (chain s.reverse).dropLast := by unfold hullS; rw [if_neg h1]
    obtain ⟨m, hm⟩ : ∃ m, (chain s).length = m + 1 := ⟨(chain s).length - 1, by omega⟩
    obtain ⟨k, hk⟩ : ∃ k, (chain s.reverse).length = k + 1 := ⟨(chain s.reverse).length - 1, by omega⟩
    have hlen : (hullS s).length = m + k := by rw [hs, List.length_append, List.length_dropLast, List.length_dropLast]; omega
    have gl : ∀ i, i < m → (hullS s).getD i (0, 0) = (chain s).getD i (0, 0) := fun i hi => by
      rw [hs, getD_app_left _ _ _ (by rw [List.length_dropLast]; omega), getD_dropLast _ _ (by omega)]
    have gr : ∀ i, i < k → (hullS s).getD (m + i) (0, 0) = (chain s.reverse).getD i (0, 0) := fun i hi => by
      have := getD_app_right (chain s).dropLast (chain s.reverse).dropLast i
      rw [List.length_dropLast, hm, Nat.add_sub_cancel] at this
      rw [hs, this, getD_dropLast _ _ (by omega)]
    rw [hm, Nat.add_sub_cancel] at cl
    rw [hk, Nat.add_sub_cancel] at dl
    have ca := fun i hi => (chain_at h i hi).e
    have da := fun i hi => ((chain_at hr i hi).mem (m := s) (fun p hp => List.mem_reverse.2 hp)).e
    have cm := fun i j hij hj => chain_mono h i j hij hj
    have dm := fun i j hij hj => chain_mono hr i j hij hj
    have cb := fun i h0 hi => chain_below h i h0 hi
    have db := fun i h0 hi => chain_below hr i h0 hi
    have cmem : ∀ i, i < m + 1 → (chain s).getD i (0, 0) ∈ s := fun i hi => chain_mem h (getD_mem _ i (by omega))
    have dmem : ∀ i, i < k + 1 → (chain s.reverse).getD i (0, 0) ∈ s := fun i hi => List.mem_reverse.1 (chain_mem hr (getD_mem _ i (by omega)))
    rw [e0, e9] at db
    rw [hm] at ca cm cb
    rw [hk] at da dm db
    have H0 : (hullS s).getD 0 (0, 0) = s.getD 0 (0, 0) := by rw [gl 0 (by omega), cf]
    have far : uu A B (s.getD 0 (0, 0)) < uu A B (s.getD (s.length - 1) (0, 0)) := u_mono h 0 _ (by omega) (by omega)
    rw [hlen]
    generalize hullS s = hh at *
    generalize chain s = c at *
    generalize chain s.reverse = d at *
    refine ⟨by omega, fun i hi => ?_, ?_, fun h => by omega, fun _ i hi => ?_, fun p hp' => ?_⟩
    · show hh.getD i (0, 0) ∈ s
      by_cases him : i < m
      · rw [gl i him]; exact cmem i (by omega)
      · have := gr (i - m) (by omega)
        rw [show m + (i - m) = i by omega] at this
        rw [this]; exact dmem _ (by omega)
    · have mix : ∀ i j, i < m → j < k → hh.getD i (0, 0) ≠ hh.getD (m + j) (0, 0) := fun i j hi hj e => by
        rw [gl i hi, gr j hj] at e
        rcases Nat.eq_zero_or_pos i with rfl | hi0
        · -- the first point is the last of the way back
          rw [cf, ← dl] at e
          have := dm j k hj (by omega)
          rw [e] at this; omega
        · rcases Nat.eq_zero_or_pos j with rfl | hj0
          · rw [df, ← cl] at e
            have := cm i m hi (by omega)
            rw [e] at this; omega
          · have x1 := cb i hi0 (by omega)
            have x2 := db j hj0 (by omega)
            rw [← e, cz_swap] at x2
            omega
      intro i j hi hj e
      replace e : hh.getD i (0, 0) = hh.getD j (0, 0) := e
      by_cases him : i < m
      · by_cases hjm : j < m
        · rw [gl i him, gl j hjm] at e
          rcases Nat.lt_trichotomy i j with h | h | h
          · have := cm i j h (by omega); rw [e] at this; omega
          · exact h
          · have := cm j i h (by omega); rw [e] at this; omega
        · refine absurd ?_ (mix i (j - m) him (by omega))
          rw [show m + (j - m) = j by omega]; exact e
      · by_cases hjm : j < m
        · refine absurd ?_ (mix j (i - m) hjm (by omega))
          rw [show m + (i - m) = i by omega]; exact e.symm
        · have e1 := gr (i - m) (by omega)
          have e2 := gr (j - m) (by omega)
          rw [show m + (i - m) = i by omega] at e1
          rw [show m + (j - m) = j by omega] at e2
          rw [e1, e2] at e
          rcases Nat.lt_trichotomy (i - m) (j - m) with h | h | h
          · have := dm _ _ h (by omega); rw [e] at this; omega
          · omega
          · have := dm _ _ h (by omega); rw [e] at this; omega
    · show SupE s (hh.getD i (0, 0)) (hh.getD ((i + 1) % (m + k)) (0, 0))
      by_cases h1 : i + 1 < m
      · rw [Nat.mod_eq_of_lt (by omega), gl i (by omega), gl (i + 1) h1]
        exact ca i (by omega)
      · by_cases h2 : i + 1 = m
        · rw [Nat.mod_eq_of_lt (by omega), gl i (by omega), h2]
          have := gr 0 (by omega)
          rw [Nat.add_zero] at this
          rw [this, df, ← cl]
          have := ca i (by omega)
          rwa [h2] at this
        · have e1 := gr (i - m) (by omega)
          rw [show m + (i - m) = i by omega] at e1
          rw [e1]
          by_cases h3 : i + 1 < m + k
          · rw [Nat.mod_eq_of_lt h3]
            have e2 := gr (i - m + 1) (by omega)
            rw [show m + (i - m + 1) = i + 1 by omega] at e2
            rw [e2]
            exact da _ (by omega)
          · have e4 : i + 1 = m + k := by omega
            rw [e4, Nat.mod_self, H0, ← dl]
            have := da (i - m) (by omega)
            rwa [show i - m + 1 = k by omega] at this
    · show (hh.getD 0 (0, 0)).1 < p.1 ∨ _
      have := hlex _ (getD_mem _ 0 hp) p hp' (hmin p hp')
      rw [H0]; exact this
theorem SupE.next {l : List Pt} {a b c : Pt} (h1 : SupE l a b) (h2 : SupE l a c) (hb : b ∈ l) (hc : c ∈ l) : b = c := by
  have e := cz_swap2 a b c
  have k1 := h1.2 c hc
  have k2 := h2.2 b hb
  rcases k1 with k1 | ⟨k1, k3⟩
  · rcases k2 with k2 | ⟨k2, -⟩ <;> omega
  · rcases k2 with k2 | ⟨-, k4⟩
    · omega
    · exact bw_anti k3 k4
theorem HullOK.zero {l : List Pt} {n m : Nat} {H K : Nat → Pt} (h : HullOK l n H) (k : HullOK l m K) : H 0 = K 0 := by
  have h1 := h.low (K 0) (k.mem 0 k.pos)
  have h2 := k.low (H 0) (h.mem 0 h.pos)
  exact Prod.ext (by omega) (by omega)
theorem HullOK.agree {l : List Pt} {n m : Nat} {H K : Nat → Pt} (h : HullOK l n H) (k : HullOK l m K) (hn : 2 ≤ n) (hm : 2 ≤ m) : ∀ i, i < n → i < m → H i = K i
  | 0, _, _ => h.zero k
  | i + 1, hi, hj => by
    have e := HullOK.agree h k hn hm i (by omega) (by omega)
    have e1 := h.edge hn i (by omega)
    have e2 := k.edge hm i (by omega)
    rw [Nat.mod_eq_of_lt hi, e] at e1
    rw [Nat.mod_eq_of_lt hj] at e2
    exact e1.next e2 (h.mem _ hi) (k.mem _ hj)
theorem HullOK.le {l : List Pt} {n m : Nat} {H K : Nat → Pt} (h : HullOK l n H) (k : HullOK l m K) : m ≤ n := by
  refine Classical.byContradiction fun hlt => ?_
  have hm : 2 ≤ m := by have := h.pos; omega
  by_cases hn : n = 1
  · have e1 := h.one hn (K 1) (k.mem 1 (by omega))
    rw [h.zero k] at e1
    have := k.inj 1 0 (by omega) (by omega) e1
    omega
  · have hn2 : 2 ≤ n := by have := h.pos; omega
    have e := h.agree k hn2 hm (n - 1) (by omega) (by omega)
    have e1 := h.edge hn2 (n - 1) (by omega)
    have e2 := k.edge hm (n - 1) (by omega)
    rw [show n - 1 + 1 = n by omega, Nat.mod_self, e] at e1
    rw [show n - 1 + 1 = n by omega, Nat.mod_eq_of_lt (by omega)] at e2
    have e3 := e1.next e2 (h.mem 0 h.pos) (k.mem n (by omega))
    rw [h.zero k] at e3
    have := k.inj 0 n (by omega) (by omega) e3
    omega
/-- There is one such ring alone. -/
theorem HullOK.uniq {l : List Pt} {n m : Nat} {H K : Nat → Pt} (h : HullOK l n H) (k : HullOK l m K) : n = m ∧ ∀ i, i < n → H i = K i := by
  have e : n = m := Nat.le_antisymm (k.le h) (h.le k)
  refine ⟨e, fun i hi => ?_⟩
  subst e
  by_cases hn : n = 1
  · have : i = 0 := by omega
    subst this; exact h.zero k
  · exact h.agree k (by omega) (by omega) i hi hi
theorem HullOK.congr {l m : List Pt} {n : Nat} {H : Nat → Pt} (h : HullOK l n H) (e : ∀ p, p ∈ l ↔ p ∈ m) : HullOK m n H where
  pos := h.pos
  mem i hi := (e _).1 (h.mem i hi)
  inj := h.inj
  one h1 p hp := h.one h1 p ((e p).2 hp)
  edge h2 i hi := ⟨(h.edge h2 i hi).1, fun p hp => (h.edge h2 i hi).2 p ((e p).2 hp)⟩
  low p hp := h.low p ((e p).2 hp)
/-- A hull is its own hull. -/
theorem HullOK.self {l m : List Pt} {n : Nat} {H : Nat → Pt} (h : HullOK l n H) (hs : ∀ p ∈ m, p ∈ l) (hm : ∀ i, i < n → H i ∈ m) : HullOK m n H where
  pos := h.pos
  mem := hm
  inj := h.inj
  one h1 p hp := h.one h1 p (hs p hp)
  edge h2 i hi := ⟨(h.edge h2 i hi).1, fun p hp => (h.edge h2 i hi).2 p (hs p hp)⟩
  low p hp := h.low p (hs p hp)
theorem two_on {n i : Nat} (hn : 3 ≤ n) (hi : i < n) : ((i + 1) % n + 1) % n = (i + 2) % n ∧ (i + 1) % n < n ∧ (i + 2) % n < n ∧ (i + 2) % n ≠ i := by
  refine ⟨by rw [Nat.mod_add_mod], Nat.mod_lt _ (by omega), Nat.mod_lt _ (by omega), ?_⟩
  by_cases h : i + 2 < n
  · rw [Nat.mod_eq_of_lt h]; omega
  · rw [Nat.mod_eq_sub_mod (by omega), Nat.mod_eq_of_lt (by omega)]; omega
theorem HullOK.turn {l : List Pt} {n : Nat} {H : Nat → Pt} (h : HullOK l n H) (hn : 3 ≤ n) (i : Nat) (hi : i < n) : 0 < cz (H i) (H ((i + 1) % n)) (H ((i + 2) % n)) := by
  obtain ⟨t1, t2, t3, t4⟩ := two_on hn hi
  have e1 := h.edge (by omega) i hi
  have e2 := h.edge (by omega) _ t2
  rw [t1] at e2
  rcases e1.2 _ (h.mem _ t3) with k | ⟨k, k1⟩
  · exact k
  · have e3 := e2.2 _ (h.mem i hi)
    rw [cz_turn] at e3
    rcases e3 with e3 | ⟨-, k2⟩
    · exact e3
    · have := bw_anti (bw_swap k1) k2
      exact absurd (h.inj _ _ hi t3 this).symm t4

theorem seg_max {A B M : Int} {a b p : Pt} (h0 : cz a b p = 0) (hab : a ≠ b) (hb : bw a p b) (h1 : uu A B a ≤ M) (h2 : uu A B b ≤ M) : uu A B p ≤ M := by
  have cx : (M - uu A B p) * (b.1 - a.1) = (M - uu A B a) * (b.1 - p.1) + (M - uu A B b) * (p.1 - a.1) := by
    have : (M - uu A B p) * (b.1 - a.1) - ((M - uu A B a) * (b.1 - p.1) + (M - uu A B b) * (p.1 - a.1)) = -(B * cz a b p) := by unfold cz uu; grind
    rw [h0] at this; omega
  have cy : (M - uu A B p) * (b.2 - a.2) = (M - uu A B a) * (b.2 - p.2) + (M - uu A B b) * (p.2 - a.2) := by
    have : (M - uu A B p) * (b.2 - a.2) - ((M - uu A B a) * (b.2 - p.2) + (M - uu A B b) * (p.2 - a.2)) = A * cz a b p := by unfold cz uu; grind
    rw [h0] at this; omega
  have key : ∀ e s t : Int, (M - uu A B p) * e = (M - uu A B a) * s + (M - uu A B b) * t → ((0 < e ∧ 0 ≤ s ∧ 0 ≤ t) ∨ (e < 0 ∧ s ≤ 0 ∧ t ≤ 0)) → 0 ≤ M - uu A B p := by
    intro e s t he hc
    rcases hc with ⟨k1, k2, k3⟩ | ⟨k1, k2, k3⟩
    · refine nn_mul (y := e) ?_ k1
      rw [he]
      have m1 := Int.mul_nonneg (show 0 ≤ M - uu A B a by omega) k2
      have m2 := Int.mul_nonneg (show 0 ≤ M - uu A B b by omega) k3
      omega
    · refine nn_mul (y := -e) ?_ (by omega)
      have m1 := Int.mul_nonneg (show 0 ≤ M - uu A B a by omega) (show 0 ≤ -s by omega)
      have m2 := Int.mul_nonneg (show 0 ≤ M - uu A B b by omega) (show 0 ≤ -t by omega)
      have e2 : (M - uu A B p) * -e = (M - uu A B a) * -s + (M - uu A B b) * -t := by
        have : (M - uu A B p) * -e = -((M - uu A B p) * e) := by grind
        rw [this, he]; grind
      omega
  unfold bw at hb
  have hne : ¬ (a.1 = b.1 ∧ a.2 = b.2) := fun h => hab (Prod.ext h.1 h.2)
  by_cases hx : a.1 = b.1
  · have := key _ _ _ cy (by omega); omega
  · have := key _ _ _ cx (by omega); omega
theorem exMax (f : Nat → Int) : ∀ n, 1 ≤ n → ∃ i, i < n ∧ ∀ j, j < n → f j ≤ f i
  | 0, h => by omega
  | 1, _ => ⟨0, by omega, fun j hj => by have : j = 0 := by omega
                                         subst this; exact Int.le_refl _⟩
  | n + 2, _ => by
    obtain ⟨i, hi, h⟩ := exMax f (n + 1) (by omega)
    by_cases hc : f i ≤ f (n + 1)
    · refine ⟨n + 1, by omega, fun j hj => ?_⟩
      rcases Nat.lt_or_eq_of_le (Nat.lt_succ_iff.1 hj) with h1 | h1
      · have := h j h1; omega
      · rw [h1]; exact Int.le_refl _
    · refine ⟨i, by omega, fun j hj => ?_⟩
      rcases Nat.lt_or_eq_of_le (Nat.lt_succ_iff.1 hj) with h1 | h1
      · exact h j h1
      · rw [h1]; omega
theorem back_one {n i : Nat} (hn : 3 ≤ n) (hi : i < n) : ∃ z, z < n ∧ (z + 1) % n = i ∧ (z + 2) % n = (i + 1) % n := by
  by_cases h : i = 0
  · subst h
    refine ⟨n - 1, by omega, by rw [show n - 1 + 1 = n by omega, Nat.mod_self], ?_⟩
    rw [show n - 1 + 2 = 1 + n by omega, Nat.add_mod_right]
  · refine ⟨i - 1, by omega, by rw [show i - 1 + 1 = i by omega, Nat.mod_eq_of_lt hi], ?_⟩
    rw [show i - 1 + 2 = i + 1 by omega]
/-- In no direction a point that is left of all edges is farther than all corners. -/
theorem HullOK.dir3 {l : List Pt} {n : Nat} {H : Nat → Pt} (h : HullOK l n H) (hn : 3 ≤ n) (A B : Int) {p : Pt} (hp : ∀ i, i < n → 0 ≤ cz (H i) (H ((i + 1) % n)) p) : ∃ i, i < n ∧ uu A B p ≤ uu A B (H i) := by
  obtain ⟨i, hi, hmax⟩ := exMax (fun i => uu A B (H i)) n (by omega)
  refine ⟨i, hi, ?_⟩
  obtain ⟨z, hz, e1, e2⟩ := back_one hn hi
  have t := h.turn hn z hz
  have p1 := hp z hz
  have p2 := hp i hi
  have m1 := hmax z hz
  have m2 := hmax ((i + 1) % n) (Nat.mod_lt _ (by omega))
  rw [e1, e2] at t
  rw [e1] at p1
  replace m1 : uu A B (H z) ≤ uu A B (H i) := m1
  replace m2 : uu A B (H ((i + 1) % n)) ≤ uu A B (H i) := m2
  generalize H z = a at *
  generalize H i = o at *
  generalize H ((i + 1) % n) = b at *
  have k := plk A B o a b p
  rw [cz_swap a o p, cz_swap a o b] at k
  have q1 : 0 ≤ cz o b p * (uu A B o - uu A B a) := Int.mul_nonneg p2 (by omega)
  have q2 : 0 ≤ cz a o p * (uu A B o - uu A B b) := Int.mul_nonneg p1 (by omega)
  have e : (uu A B o - uu A B p) * cz a o b = cz o b p * (uu A B o - uu A B a) + cz a o p * (uu A B o - uu A B b) := by
    have : cz o b p * (uu A B o - uu A B a) = -(cz o b p * (uu A B a - uu A B o)) := by grind
    rw [this, k]; grind
  have := nn_mul (x := uu A B o - uu A B p) (y := cz a o b) (by omega) t
  omega
theorem HullOK.dir {l : List Pt} {n : Nat} {H : Nat → Pt} (h : HullOK l n H) (A B : Int) {p : Pt} (hp : p ∈ l) : ∃ i, i < n ∧ uu A B p ≤ uu A B (H i) := by
  by_cases h1 : n = 1
  · exact ⟨0, h.pos, by rw [h.one h1 p hp]; exact Int.le_refl _⟩
  · have h2 : 2 ≤ n := by have := h.pos; omega
    by_cases h3 : n = 2
    · subst h3
      have e1 := h.edge (by omega) 0 (by omega)
      have e2 := h.edge (by omega) 1 (by omega)
      simp only [Nat.zero_add, show (1 : Nat) % 2 = 1 from rfl, show (1 + 1) % 2 = 0 from rfl] at e1 e2
      have k1 := e1.2 p hp
      have k2 := e2.2 p hp
      rw [cz_swap (H 0) (H 1) p] at k2
      have hz : cz (H 0) (H 1) p = 0 := by omega
      have hb : bw (H 0) p (H 1) := by
        rcases k1 with k1 | ⟨-, k1⟩
        · omega
        · exact k1
      rcases Int.le_total (uu A B (H 0)) (uu A B (H 1)) with hc | hc
      · exact ⟨1, by omega, seg_max hz e1.1 hb hc (Int.le_refl _)⟩
      · exact ⟨0, by omega, seg_max hz e1.1 hb (Int.le_refl _) hc⟩
    · refine h.dir3 (by omega) A B (fun i hi => ?_)
      rcases (h.edge h2 i hi).2 p hp with k | k <;> omega

/-- The square of a distance. -/
def d2 (a b : Pt) : Int := (a.1 - b.1) * (a.1 - b.1) + (a.2 - b.2) * (a.2 - b.2)
theorem d2_nn (a b : Pt) : 0 ≤ d2 a b := by
  have key : ∀ x : Int, 0 ≤ x * x := fun x => by
    rcases Int.le_total 0 x with h | h
    · exact Int.mul_nonneg h h
    · have : x * x = -x * -x := by grind
      rw [this]; exact Int.mul_nonneg (by omega) (by omega)
  have := key (a.1 - b.1)
  have := key (a.2 - b.2)
  unfold d2; omega
theorem d2_comm (a b : Pt) : d2 a b = d2 b a := by unfold d2; grind
theorem d2_dir {p q h : Pt} (hd : uu (p.1 - q.1) (p.2 - q.2) p ≤ uu (p.1 - q.1) (p.2 - q.2) h) : d2 p q ≤ d2 h q := by
  have e : d2 h q = d2 p q + 2 * (uu (p.1 - q.1) (p.2 - q.2) h - uu (p.1 - q.1) (p.2 - q.2) p) + d2 h p := by unfold d2 uu; grind
  have := d2_nn h p
  omega
/-- The farthest two are corners. -/
theorem HullOK.far {l : List Pt} {n : Nat} {H : Nat → Pt} (h : HullOK l n H) {p q : Pt} (hp : p ∈ l) (hq : q ∈ l) : ∃ i j, i < n ∧ j < n ∧ d2 p q ≤ d2 (H i) (H j) := by
  obtain ⟨i, hi, h1⟩ := h.dir (p.1 - q.1) (p.2 - q.2) hp
  obtain ⟨j, hj, h2⟩ := h.dir (q.1 - (H i).1) (q.2 - (H i).2) hq
  have k1 := d2_dir h1
  have k2 := d2_dir h2
  rw [d2_comm q, d2_comm (H j)] at k2
  exact ⟨i, j, hi, hj, by omega⟩
theorem bound2 : ∀ (l : List Pt), ∃ B : Int, 0 ≤ B ∧ ∀ p ∈ l, -B ≤ p.2 ∧ p.2 ≤ B
  | [] => ⟨0, by omega, by simp⟩
  | a :: l => by
    obtain ⟨B, h0, h⟩ := bound2 l
    refine ⟨B + a.2.natAbs, by omega, fun p hp => ?_⟩
    rcases List.mem_cons.1 hp with rfl | hp
    · omega
    · have := h p hp; omega
/-- A linear order that is the lexical one, on the points of a list. -/
theorem lexU (l : List Pt) : ∃ M : Int, ∀ p ∈ l, ∀ q ∈ l, uu M 1 p ≤ uu M 1 q ↔ (p.1 < q.1 ∨ (p.1 = q.1 ∧ p.2 ≤ q.2)) := by
  obtain ⟨B, h0, h⟩ := bound2 l
  refine ⟨2 * B + 1, fun p hp q hq => ?_⟩
  have b1 := h p hp
  have b2 := h q hq
  unfold uu
  have key : ∀ x y : Int, x < y → (2 * B + 1) * x + (2 * B + 1) ≤ (2 * B + 1) * y := fun x y hxy => by
    have : (2 * B + 1) * y - ((2 * B + 1) * x + (2 * B + 1)) = (2 * B + 1) * (y - x - 1) := by grind
    have := Int.mul_nonneg (show 0 ≤ 2 * B + 1 by omega) (show 0 ≤ y - x - 1 by omega)
    omega
  rcases Int.lt_trichotomy p.1 q.1 with hc | hc | hc
  · have := key _ _ hc
    constructor
    · intro _; exact .inl hc
    · intro _; omega
  · rw [hc]
    constructor
    · intro _; exact .inr ⟨rfl, by omega⟩
    · intro hh; omega
  · have := key _ _ hc
    constructor
    · intro _; omega
    · intro hh; omega
/-- One more point, left of all edges: the hull stays. -/
theorem HullOK.more {l : List Pt} {n : Nat} {H : Nat → Pt} (h : HullOK l n H) (hn : 3 ≤ n) {p : Pt} (hp : ∀ i, i < n → 0 ≤ cz (H i) (H ((i + 1) % n)) p) : HullOK (p :: l) n H where
  pos := h.pos
  mem i hi := List.mem_cons_of_mem _ (h.mem i hi)
  inj := h.inj
  one h1 := by omega
  edge h2 i hi := by
    refine ⟨(h.edge h2 i hi).1, fun q hq => ?_⟩
    rcases List.mem_cons.1 hq with rfl | hq
    · have e0 := hp i hi
      rcases Int.lt_or_eq_of_le e0 with e0 | e0
      · exact .inl e0
      · refine .inr ⟨e0.symm, ?_⟩
        obtain ⟨z, hz, z1, z2⟩ := back_one hn hi
        obtain ⟨t1, t2, t3, t4⟩ := two_on hn hi
        have tz := h.turn hn z hz
        have ti := h.turn hn i hi
        have pz := hp z hz
        have pn := hp _ t2
        have hne := (h.edge h2 i hi).1
        rw [z1, z2] at tz
        rw [z1] at pz
        rw [t1] at pn
        generalize H z = z0 at *
        generalize H i = a at *
        generalize H ((i + 1) % n) = b at *
        generalize H ((i + 2) % n) = c at *
        have hlt : uu (b.1 - a.1) (b.2 - a.2) a < uu (b.1 - a.1) (b.2 - a.2) b := by
          have : uu (b.1 - a.1) (b.2 - a.2) b - uu (b.1 - a.1) (b.2 - a.2) a = d2 b a := by unfold d2 uu; grind
          have hd := d2_nn b a
          have hd0 : d2 b a ≠ 0 := fun e => by
            have key : ∀ x : Int, 0 ≤ x * x := fun x => by
              rcases Int.le_total 0 x with h | h
              · exact Int.mul_nonneg h h
              · have : x * x = -x * -x := by grind
                rw [this]; exact Int.mul_nonneg (by omega) (by omega)
            have k1 := key (b.1 - a.1)
            have k2 := key (b.2 - a.2)
            unfold d2 at e
            have z1 : (b.1 - a.1) * (b.1 - a.1) = 0 := by omega
            have z2 : (b.2 - a.2) * (b.2 - a.2) = 0 := by omega
            have y1 := Int.mul_eq_zero.1 z1
            have y2 := Int.mul_eq_zero.1 z2
            exact hne (Prod.ext (by omega) (by omega))
          omega
        refine bw_of_u e0.symm hlt ?_ ?_
        · -- not ahead of a
          have k := plk (b.1 - a.1) (b.2 - a.2) a b z0 q
          rw [← e0, cz_swap z0 a q, show cz a b z0 = cz z0 a b from cz_turn z0 a b] at k
          have q1 : 0 ≤ cz z0 a q * (uu (b.1 - a.1) (b.2 - a.2) b - uu (b.1 - a.1) (b.2 - a.2) a) := Int.mul_nonneg pz (by omega)
          have : (uu (b.1 - a.1) (b.2 - a.2) q - uu (b.1 - a.1) (b.2 - a.2) a) * cz z0 a b = cz z0 a q * (uu (b.1 - a.1) (b.2 - a.2) b - uu (b.1 - a.1) (b.2 - a.2) a) := by grind
          have := nn_mul (x := uu (b.1 - a.1) (b.2 - a.2) q - uu (b.1 - a.1) (b.2 - a.2) a) (y := cz z0 a b) (by omega) tz
          omega
        · have k := plk (b.1 - a.1) (b.2 - a.2) b a c q
          rw [cz_swap a b q, ← e0, cz_swap a b c] at k
          have q1 : 0 ≤ cz b c q * (uu (b.1 - a.1) (b.2 - a.2) b - uu (b.1 - a.1) (b.2 - a.2) a) := Int.mul_nonneg pn (by omega)
          have : (uu (b.1 - a.1) (b.2 - a.2) b - uu (b.1 - a.1) (b.2 - a.2) q) * cz a b c = cz b c q * (uu (b.1 - a.1) (b.2 - a.2) b - uu (b.1 - a.1) (b.2 - a.2) a) := by grind
          have := nn_mul (x := uu (b.1 - a.1) (b.2 - a.2) b - uu (b.1 - a.1) (b.2 - a.2) q) (y := cz a b c) (by omega) ti
          omega
    · exact (h.edge h2 i hi).2 q hq
  low q hq := by
    rcases List.mem_cons.1 hq with rfl | hq
    · obtain ⟨M, hM⟩ := lexU (q :: (List.range n).map H)
      obtain ⟨i, hi, hd⟩ := h.dir3 hn (-M) (-1) hp
      rw [uu_neg, uu_neg] at hd
      have hmem : ∀ j, j < n → H j ∈ q :: (List.range n).map H := fun j hj => List.mem_cons_of_mem _ (List.mem_map.2 ⟨j, List.mem_range.2 hj, rfl⟩)
      have h1 := (hM (H i) (hmem i hi) q (by simp)).1 (by omega)
      have h2 := h.low (H i) (h.mem i hi)
      omega
    · exact h.low q hq

end Go.Proofs.YtogflfepkddbhaaDoor.Hp
