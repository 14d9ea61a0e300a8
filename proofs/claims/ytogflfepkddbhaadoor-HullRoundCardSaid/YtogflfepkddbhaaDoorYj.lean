/- the hull of points, wrapped from corner to corner; sorted points without one twice; the first of the best two -/
import Derived.Test.YtogflfepkddbhaaDoorYf
namespace Go.Proofs.YtogflfepkddbhaaDoor.Hp
set_option linter.unusedVariables false

theorem sq_mono {a b : Int} (h : (0 ≤ a ∧ a ≤ b) ∨ (b ≤ a ∧ a ≤ 0)) : a * a ≤ b * b ∧ (a * a = b * b → a = b) := by
  rcases h with ⟨h0, h1⟩ | ⟨h1, h0⟩
  · have e : b * b - a * a = (b - a) * (b + a) := by grind
    have m : 0 ≤ (b - a) * (b + a) := Int.mul_nonneg (by omega) (by omega)
    refine ⟨by omega, fun h => ?_⟩
    rcases Int.mul_eq_zero.1 (show (b - a) * (b + a) = 0 by omega) with k | k <;> omega
  · have e : b * b - a * a = (a - b) * (-a - b) := by grind
    have m : 0 ≤ (a - b) * (-a - b) := Int.mul_nonneg (by omega) (by omega)
    refine ⟨by omega, fun h => ?_⟩
    rcases Int.mul_eq_zero.1 (show (a - b) * (-a - b) = 0 by omega) with k | k <;> omega
/-- What is between is not farther, and as far only at the end. -/
theorem d2_bw {o p h : Pt} (hb : bw o p h) : d2 o p ≤ d2 o h ∧ (d2 o p = d2 o h → p = h) := by
  have k1 := sq_mono (a := o.1 - p.1) (b := o.1 - h.1) (by unfold bw at hb; omega)
  have k2 := sq_mono (a := o.2 - p.2) (b := o.2 - h.2) (by unfold bw at hb; omega)
  unfold d2
  refine ⟨by omega, fun e => ?_⟩
  have e1 := k1.2 (by omega)
  have e2 := k2.2 (by omega)
  exact Prod.ext (by omega) (by omega)

/-- The next corner behind o, p looked at. -/
def wpStep (o nx p : Pt) : Pt := if nx = o ∨ cz o nx p < 0 ∨ (cz o nx p = 0 ∧ d2 o nx < d2 o p) then p else nx
def wpNext (o : Pt) (l : List Pt) : Pt := l.foldl (wpStep o) o
theorem wpStep_stay {l : List Pt} {o h p : Pt} (hE : SupE l o h) (hp : p ∈ l) : wpStep o h p = h := by
  unfold wpStep
  rw [if_neg]
  rintro (e | e | ⟨e, k⟩)
  · exact hE.1 e.symm
  · rcases hE.2 p hp with k | ⟨k, -⟩ <;> omega
  · rcases hE.2 p hp with k' | ⟨-, k'⟩
    · omega
    · have := (d2_bw k').1; omega
theorem wpStep_to {l : List Pt} {o h nx : Pt} (hE : SupE l o h) (hn : nx = o ∨ nx ∈ l) : wpStep o nx h = h := by
  unfold wpStep
  by_cases c : nx = o
  · rw [if_pos (.inl c)]
  by_cases c2 : nx = h
  · split
    · rfl
    · exact c2
  rcases hn with hn | hn
  · exact absurd hn c
  rw [if_pos]
  rcases hE.2 nx hn with k | ⟨k, k'⟩
  · right; left; rw [cz_swap2]; omega
  · right; right
    refine ⟨by rw [cz_swap2]; omega, ?_⟩
    have := d2_bw k'
    rcases Int.lt_or_le (d2 o nx) (d2 o h) with h1 | h1
    · exact h1
    · exact absurd (this.2 (by omega)) c2
theorem wpFold_stay {l : List Pt} {o h : Pt} (hE : SupE l o h) : ∀ m : List Pt, (∀ p ∈ m, p ∈ l) → m.foldl (wpStep o) h = h
  | [], _ => rfl
  | p :: m, hm => by
    rw [List.foldl_cons, wpStep_stay hE (hm p (by simp))]
    exact wpFold_stay hE m fun q hq => hm q (by simp [hq])
theorem wpStep_in {l : List Pt} {o nx p : Pt} (hp : p ∈ l) (hn : nx = o ∨ nx ∈ l) : wpStep o nx p = o ∨ wpStep o nx p ∈ l := by
  unfold wpStep
  split
  · exact .inr hp
  · exact hn
theorem wpFold_hit {l : List Pt} {o h : Pt} (hE : SupE l o h) : ∀ (m : List Pt) (nx : Pt), (∀ p ∈ m, p ∈ l) → (nx = o ∨ nx ∈ l) → h ∈ m → m.foldl (wpStep o) nx = h
  | [], _, _, _, hh => by simp at hh
  | p :: m, nx, hm, hn, hh => by
    rw [List.foldl_cons]
    by_cases c : p = h
    · subst c
      rw [wpStep_to hE hn]
      exact wpFold_stay hE m fun q hq => hm q (by simp [hq])
    · refine wpFold_hit hE m _ (fun q hq => hm q (by simp [hq])) (wpStep_in (hm p (by simp)) hn) ?_
      rcases List.mem_cons.1 hh with e | e
      · exact absurd e.symm c
      · exact e
theorem wpNext_hit {l : List Pt} {o h : Pt} (hE : SupE l o h) (hh : h ∈ l) : wpNext o l = h := wpFold_hit hE l o (fun _ h => h) (.inl rfl) hh
theorem wpNext_one {o : Pt} : ∀ {l : List Pt}, (∀ p ∈ l, p = o) → wpNext o l = o := by
  intro l
  unfold wpNext
  induction l with
  | nil => intro _; rfl
  | cons p l ih =>
    intro h
    have e : p = o := h p (by simp)
    subst e
    rw [List.foldl_cons]
    have : wpStep p p p = p := by unfold wpStep; split <;> rfl
    rw [this]
    exact ih fun q hq => h q (by simp [hq])
theorem inj_le : ∀ (n : Nat) (l : List Pt) (H : Nat → Pt), (∀ i, i < n → H i ∈ l) → (∀ i j, i < n → j < n → H i = H j → i = j) → n ≤ l.length
  | 0, _, _, _, _ => Nat.zero_le _
  | n + 1, l, H, h1, h2 => by
    have hm := h1 n (by omega)
    have := inj_le n (l.erase (H n)) H (fun i hi => (List.mem_erase_of_ne (fun e => by have := h2 i n (by omega) (by omega) e; omega)).2 (h1 i (by omega))) (fun i j hi hj => h2 i j (by omega) (by omega))
    rw [List.length_erase_of_mem hm] at this
    have := List.length_pos_of_mem hm
    omega
theorem HullOK.le_len {l : List Pt} {n : Nat} {H : Nat → Pt} (h : HullOK l n H) : n ≤ l.length := inj_le n l H h.mem h.inj
/-- From the m-th corner on. -/
theorem HullOK.wrap {l : List Pt} {n : Nat} {H : Nat → Pt} (h : HullOK l n H) {m : Nat} (h0 : 0 < m) (hm : m ≤ n) : wpNext (H (m - 1)) l = if m = n then H 0 else H m := by
  by_cases h1 : n = 1
  · obtain rfl : m = 1 := by omega
    rw [if_pos h1.symm]
    exact wpNext_one (h.one h1)
  · have e := h.edge (by have := h.pos; omega) (m - 1) (by omega)
    rw [wpNext_hit e (h.mem _ (Nat.mod_lt _ h.pos))]
    by_cases c : m = n
    · rw [if_pos c, show m - 1 + 1 = n by omega, Nat.mod_self]
    · rw [if_neg c, show m - 1 + 1 = m by omega, Nat.mod_eq_of_lt (by omega)]

/-- In order, by the first number, then by the second. -/
def lexB (p q : Pt) : Prop := p.1 < q.1 ∨ (p.1 = q.1 ∧ p.2 < q.2)
instance (p q : Pt) : Decidable (lexB p q) := by unfold lexB; infer_instance
theorem lexB_eq {p q : Pt} (h1 : ¬ lexB p q) (h2 : ¬ lexB q p) : p = q := by
  unfold lexB at *; exact Prod.ext (by omega) (by omega)
/-- The first by that order of the first k. -/
def lowN (L : List Pt) : Nat → Pt
  | 0 => L.getD 0 (0, 0)
  | k + 1 => if lexB (L.getD k (0, 0)) (lowN L k) then L.getD k (0, 0) else lowN L k
theorem lowN_mem {L : List Pt} (h : L ≠ []) : ∀ k, k ≤ L.length → lowN L k ∈ L
  | 0, _ => getD_mem L 0 (List.length_pos_iff.2 h)
  | k + 1, hk => by
    unfold lowN
    split
    · exact getD_mem L k (by omega)
    · exact lowN_mem h k (by omega)
theorem lowN_le {L : List Pt} : ∀ k j, j < k → ¬ lexB (L.getD j (0, 0)) (lowN L k)
  | 0, j, h => by omega
  | k + 1, j, h => by
    unfold lowN
    by_cases c : lexB (L.getD k (0, 0)) (lowN L k)
    · rw [if_pos c]
      by_cases e : j = k
      · subst e; unfold lexB; omega
      · have := lowN_le (L := L) k j (by omega)
        unfold lexB at *; omega
    · rw [if_neg c]
      by_cases e : j = k
      · subst e; exact c
      · exact lowN_le k j (by omega)
theorem HullOK.lowN {L : List Pt} {n : Nat} {H : Nat → Pt} (h : HullOK L n H) : lowN L L.length = H 0 := by
  have hne : L ≠ [] := fun e => by have := h.mem 0 h.pos; rw [e] at this; simp at this
  have h1 := h.low _ (lowN_mem hne _ (Nat.le_refl _))
  obtain ⟨j, hj, e⟩ := mem_getD (h.mem 0 h.pos)
  have h2 := lowN_le (L := L) L.length j hj
  rw [e] at h2
  refine lexB_eq ?_ h2
  unfold lexB; omega

/-- Without one that is as the one ahead. -/
def cmpc : List Pt → List Pt
  | [] => []
  | [p] => [p]
  | p :: q :: r => if p = q then cmpc (q :: r) else p :: cmpc (q :: r)
theorem cmpc_mem : ∀ (l : List Pt) (p : Pt), p ∈ cmpc l ↔ p ∈ l
  | [], p => by simp [cmpc]
  | [q], p => by simp [cmpc]
  | q :: r :: l, p => by
    have ih := cmpc_mem (r :: l) p
    unfold cmpc
    split
    · rename_i e
      rw [ih, List.mem_cons (a := p) (b := q), e]
      constructor
      · exact .inr
      · rintro (k | k)
        · rw [k]; simp
        · exact k
    · rw [List.mem_cons, ih, List.mem_cons (a := p) (b := q)]
theorem cmpc_pw : ∀ (l : List Pt), l.Pairwise (fun p q => ¬ lexB q p) → (cmpc l).Pairwise lexB
  | [], _ => List.Pairwise.nil
  | [q], _ => List.pairwise_singleton _ _
  | q :: r :: l, h => by
    have h2 := List.pairwise_cons.1 h
    have ih := cmpc_pw (r :: l) h2.2
    unfold cmpc
    split
    · exact ih
    · rename_i c
      refine List.pairwise_cons.2 ⟨fun p hp => ?_, ih⟩
      have hp' := (cmpc_mem _ _).1 hp
      have hqr : lexB q r := by
        have k1 := h2.1 r (by simp)
        rcases Classical.em (lexB q r) with k | k
        · exact k
        · exact absurd (lexB_eq k k1) c
      rcases List.mem_cons.1 hp' with rfl | hp'
      · exact hqr
      · have k2 := (List.pairwise_cons.1 h2.2).1 p hp'
        unfold lexB at *; omega
theorem cmpc_ne {l : List Pt} (h : l ≠ []) : cmpc l ≠ [] := by
  obtain ⟨p, hp⟩ := List.exists_mem_of_ne_nil l h
  exact List.ne_nil_of_mem ((cmpc_mem l p).2 hp)
theorem cmpc_len : ∀ l : List Pt, (cmpc l).length ≤ l.length
  | [] => by simp [cmpc]
  | [q] => by simp [cmpc]
  | q :: r :: l => by
    have ih := cmpc_len (r :: l)
    unfold cmpc
    split
    · rw [List.length_cons (a := q)]; omega
    · rw [List.length_cons, List.length_cons (a := q)]; omega
/-- One more behind. -/
theorem cmpc_snoc : ∀ (l : List Pt) (p : Pt), cmpc (l ++ [p]) = if l.getLast? = some p then cmpc l else cmpc l ++ [p]
  | [], p => by simp [cmpc]
  | [q], p => by
    by_cases e : q = p
    · simp [cmpc, e]
    · simp [cmpc, e]
  | q :: r :: l, p => by
    have ih := cmpc_snoc (r :: l) p
    have e1 : (q :: r :: l).getLast? = (r :: l).getLast? := by simp [List.getLast?_cons_cons]
    rw [e1]
    show cmpc (q :: r :: (l ++ [p])) = _
    have ih' : cmpc (r :: (l ++ [p])) = _ := ih
    have u1 : cmpc (q :: r :: (l ++ [p])) = if q = r then cmpc (r :: (l ++ [p])) else q :: cmpc (r :: (l ++ [p])) := by rw [cmpc]
    have u2 : cmpc (q :: r :: l) = if q = r then cmpc (r :: l) else q :: cmpc (r :: l) := by rw [cmpc]
    rw [u1, u2, ih']
    by_cases c : q = r
    · rw [if_pos c, if_pos c]
    · rw [if_neg c, if_neg c]
      split <;> rfl
/-- The hull of a row that was put in order and made single. -/
theorem sort_ok {l s : List Pt} (hs : s.Pairwise (fun p q => ¬ lexB q p)) (hp : ∀ p, p ∈ s ↔ p ∈ l) (hn : l ≠ []) : HullOK l (hullS (cmpc s)).length (fun i => (hullS (cmpc s)).getD i (0, 0)) := by
  have hsn : s ≠ [] := fun e => by
    obtain ⟨p, hp'⟩ := List.exists_mem_of_ne_nil l hn
    have := (hp p).2 hp'
    rw [e] at this; simp at this
  obtain ⟨M, hM⟩ := lexU (cmpc s)
  have hpw := cmpc_pw s hs
  have h1 : (cmpc s).Pairwise (fun p q => uu M 1 p < uu M 1 q) := by
    refine List.Pairwise.imp_of_mem ?_ hpw
    intro a b ha hb hab
    rcases Int.lt_or_le (uu M 1 a) (uu M 1 b) with k | k
    · exact k
    · have := (hM b hb a ha).1 k
      unfold lexB at hab; omega
  have h2 := hullS_ok h1 (cmpc_ne hsn) (fun p hp q hq => (hM p hp q hq).1)
  exact h2.congr fun p => by rw [cmpc_mem, hp]

theorem popS_le {q : Pt} : ∀ st : List Pt, (popS q st).length ≤ st.length
  | [] => Nat.le_refl _
  | [a] => Nat.le_refl _
  | b :: a :: r => by
    unfold popS
    split
    · exact Nat.le_refl _
    · have := popS_le (q := q) (a :: r)
      rw [List.length_cons (a := b)]; omega
theorem chS_len : ∀ (l st : List Pt), (chS st l).length ≤ st.length + l.length
  | [], st => Nat.le_refl _
  | q :: l, st => by
    have h1 := chS_len l (q :: popS q st)
    have h2 := popS_le (q := q) st
    show (chS (q :: popS q st) l).length ≤ _
    simp only [List.length_cons] at *
    omega
theorem chain_len (l : List Pt) : (chain l).length ≤ l.length := by
  have := chS_len l []
  unfold chain
  rw [List.length_reverse]
  simpa using this
theorem chS_one : ∀ (l st : List Pt), st ≠ [] ∨ l ≠ [] → 1 ≤ (chS st l).length
  | [], st, h => by
    rcases h with h | h
    · exact List.length_pos_iff.2 h
    · exact absurd rfl h
  | q :: l, st, _ => chS_one l (q :: popS q st) (.inl (by simp))
theorem chain_one {l : List Pt} (h : l ≠ []) : 1 ≤ (chain l).length := by
  unfold chain
  rw [List.length_reverse]
  exact chS_one l [] (.inr h)

/-- Ahead, by the first place, then by the second. -/
def Ahd (p q i j : Nat) : Prop := p < i ∨ (p = i ∧ q < j)
/-- Of the pairs ahead of m n the first best one is i j. -/
structure Bst (F : Nat → Nat → Int) (N m n i j : Nat) : Prop where
  lt : i < j ∧ j < N ∧ Ahd i j m n
  le : ∀ p q, p < q → q < N → Ahd p q m n → F p q ≤ F i j
  first : ∀ p q, p < q → q < N → Ahd p q i j → F p q < F i j
theorem Bst.stay {F : Nat → Nat → Int} {N m n i j : Nat} (h : Bst F N m n i j) (hmn : m < n) (hn : n < N) (hF : F m n ≤ F i j) : Bst F N m (n + 1) i j where
  lt := by have := h.lt; unfold Ahd at *; omega
  le p q hpq hq ha := by
    by_cases c : p = m ∧ q = n
    · rw [c.1, c.2]; exact hF
    · exact h.le p q hpq hq (by unfold Ahd at *; omega)
  first := h.first
theorem Bst.move {F : Nat → Nat → Int} {N m n i j : Nat} (h : Bst F N m n i j) (hmn : m < n) (hn : n < N) (hF : F i j < F m n) : Bst F N m (n + 1) m n where
  lt := by unfold Ahd; omega
  le p q hpq hq ha := by
    by_cases c : p = m ∧ q = n
    · rw [c.1, c.2]; exact Int.le_refl _
    · have := h.le p q hpq hq (by unfold Ahd at *; omega); omega
  first p q hpq hq ha := by have := h.le p q hpq hq ha; omega
theorem Bst.row {F : Nat → Nat → Int} {N m i j : Nat} (h : Bst F N m N i j) : Bst F N (m + 1) (m + 2) i j where
  lt := by have := h.lt; unfold Ahd at *; omega
  le p q hpq hq ha := h.le p q hpq hq (by unfold Ahd at *; omega)
  first := h.first
theorem Bst.start {F : Nat → Nat → Int} {N : Nat} (h : 2 ≤ N) : Bst F N 0 2 0 1 where
  lt := by unfold Ahd; omega
  le p q hpq hq ha := by
    have : p = 0 ∧ q = 1 := by unfold Ahd at ha; omega
    rw [this.1, this.2]; exact Int.le_refl _
  first p q hpq hq ha := by unfold Ahd at ha; omega
/-- Of all pairs. -/
structure BstA (F : Nat → Nat → Int) (N i j : Nat) : Prop where
  lt : i < j ∧ j < N
  le : ∀ p q, p < q → q < N → F p q ≤ F i j
  first : ∀ p q, p < q → q < N → Ahd p q i j → F p q < F i j
theorem Bst.all {F : Nat → Nat → Int} {N m n i j : Nat} (h : Bst F N m n i j) (hm : N ≤ m + 1) (hn : m < N → N ≤ n) : BstA F N i j where
  lt := ⟨h.lt.1, h.lt.2.1⟩
  le p q hpq hq := h.le p q hpq hq (by unfold Ahd; omega)
  first := h.first
theorem BstA.uniq {F : Nat → Nat → Int} {N i j p q : Nat} (h : BstA F N i j) (k : BstA F N p q) : i = p ∧ j = q := by
  have h1 := h.le p q k.lt.1 k.lt.2
  have h2 := k.le i j h.lt.1 h.lt.2
  have c1 : ¬ Ahd p q i j := fun a => by have := h.first p q k.lt.1 k.lt.2 a; omega
  have c2 : ¬ Ahd i j p q := fun a => by have := k.first i j h.lt.1 h.lt.2 a; omega
  unfold Ahd at c1 c2; omega

theorem dot_bw {a c b : Pt} (h : bw a c b) (hc : c ≠ a) : uu (b.1 - a.1) (b.2 - a.2) a < uu (b.1 - a.1) (b.2 - a.2) c := by
  have e : uu (b.1 - a.1) (b.2 - a.2) c - uu (b.1 - a.1) (b.2 - a.2) a = (b.1 - a.1) * (c.1 - a.1) + (b.2 - a.2) * (c.2 - a.2) := by unfold uu; grind
  have key : ∀ x y : Int, (0 ≤ y ∧ y ≤ x) ∨ (x ≤ y ∧ y ≤ 0) → 0 ≤ x * y ∧ (x * y = 0 → y = 0) := by
    intro x y h
    refine ⟨?_, fun h0 => ?_⟩
    · rcases h with h | h
      · exact Int.mul_nonneg (by omega) (by omega)
      · have : x * y = -x * -y := by grind
        rw [this]; exact Int.mul_nonneg (by omega) (by omega)
    · rcases Int.mul_eq_zero.1 h0 with k | k <;> omega
  have k1 := key (b.1 - a.1) (c.1 - a.1) (by unfold bw at h; omega)
  have k2 := key (b.2 - a.2) (c.2 - a.2) (by unfold bw at h; omega)
  have : ¬ ((b.1 - a.1) * (c.1 - a.1) = 0 ∧ (b.2 - a.2) * (c.2 - a.2) = 0) := fun ⟨x, y⟩ => hc (Prod.ext (by have := k1.2 x; omega) (by have := k2.2 y; omega))
  omega
/-- Every other corner is strictly on the left of an edge. -/
theorem HullOK.strict {l : List Pt} {n : Nat} {H : Nat → Pt} (h : HullOK l n H) (hn : 3 ≤ n) (i k : Nat) (hi : i < n) (hk : k < n) (h1 : k ≠ i) (h2 : k ≠ (i + 1) % n) : 0 < cz (H i) (H ((i + 1) % n)) (H k) := by
  have hi1 : (i + 1) % n < n := Nat.mod_lt _ (by omega)
  have hk1 : (k + 1) % n < n := Nat.mod_lt _ (by omega)
  have e1 := h.edge (by omega) i hi
  have e2 := h.edge (by omega) k hk
  rcases e1.2 _ (h.mem _ hk) with c | ⟨c, b⟩
  · exact c
  exfalso
  have n1 : H k ≠ H i := fun e => h1 (h.inj _ _ hk hi e)
  have n2 : H k ≠ H ((i + 1) % n) := fun e => h2 (h.inj _ _ hk hi1 e)
  have f1 := e2.2 _ (h.mem _ hi)
  have f2 := e2.2 _ (h.mem _ hi1)
  generalize H ((i + 1) % n) = y at *
  generalize H ((k + 1) % n) = z at *
  generalize H i = x at *
  generalize H k = o at *
  have d1 := dot_bw b n1
  have d2 := dot_bw (bw_swap b) n2
  have s : uu (x.1 - y.1) (x.2 - y.2) o - uu (x.1 - y.1) (x.2 - y.2) y = uu (y.1 - x.1) (y.2 - x.2) y - uu (y.1 - x.1) (y.2 - x.2) o := by unfold uu; grind
  have p := plk (y.1 - x.1) (y.2 - x.2) o x z y
  have c' : cz o x y = 0 := by rw [← cz_turn]; exact c
  rw [c', cz_swap2 o z x] at p
  generalize uu (y.1 - x.1) (y.2 - x.2) y = uy at *
  generalize uu (y.1 - x.1) (y.2 - x.2) x = ux at *
  generalize uu (y.1 - x.1) (y.2 - x.2) o = uo at *
  have g1 : 0 ≤ cz o z x := by rcases f1 with q | ⟨q, -⟩ <;> omega
  have g2 : 0 ≤ cz o z y := by rcases f2 with q | ⟨q, -⟩ <;> omega
  have m1 : 0 ≤ cz o z y * (uo - ux) := Int.mul_nonneg g2 (by omega)
  have m2 : 0 ≤ cz o z x * (uy - uo) := Int.mul_nonneg g1 (by omega)
  have m3 : cz o z y * (ux - uo) = -(cz o z y * (uo - ux)) := by grind
  have p' : cz o z y * (ux - uo) = cz o z x * (uy - uo) := by rw [p, Int.zero_mul, Int.zero_sub, Int.neg_mul, Int.neg_neg]
  have m4 : cz o z y * (uo - ux) = 0 ∧ cz o z x * (uy - uo) = 0 := by
    rw [m3] at p'
    generalize cz o z y * (uo - ux) = M1 at *
    generalize cz o z x * (uy - uo) = M2 at *
    omega
  have z1 : cz o z y = 0 := by rcases Int.mul_eq_zero.1 m4.1 with q | q <;> omega
  have z2 : cz o z x = 0 := by rcases Int.mul_eq_zero.1 m4.2 with q | q <;> omega
  have b1 : bw o x z := by rcases f1 with q | ⟨-, q⟩; · omega
                           · exact q
  have b2 : bw o y z := by rcases f2 with q | ⟨-, q⟩; · omega
                           · exact q
  have t1 : o.1 = x.1 ∨ o.1 = y.1 := by unfold bw at b b1 b2; omega
  have t2 : o.2 = x.2 ∨ o.2 = y.2 := by unfold bw at b b1 b2; omega
  have c2 : (y.1 - x.1) * (o.2 - x.2) - (y.2 - x.2) * (o.1 - x.1) = 0 := c
  rcases t1 with t1 | t1 <;> rcases t2 with t2 | t2
  · exact n1 (Prod.ext t1 t2)
  · rw [t1, Int.sub_self, Int.mul_zero, Int.sub_zero] at c2
    rcases Int.mul_eq_zero.1 c2 with q | q
    · exact n2 (Prod.ext (by omega) t2)
    · exact n1 (Prod.ext t1 (by omega))
  · rw [t2, Int.sub_self, Int.mul_zero, Int.zero_sub] at c2
    rcases Int.mul_eq_zero.1 (show (y.2 - x.2) * (o.1 - x.1) = 0 by omega) with q | q
    · exact n2 (Prod.ext t1 (by omega))
    · exact n1 (Prod.ext (by omega) t2)
  · exact n2 (Prod.ext t1 t2)
end Go.Proofs.YtogflfepkddbhaaDoor.Hp
