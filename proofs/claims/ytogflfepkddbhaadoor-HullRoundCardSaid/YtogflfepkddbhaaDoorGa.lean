/- rings: plain facts -/
import Derived.Test.YtogflfepkddbhaaDoorZd
import Derived.Test.YtogflfepkddbhaaDoorZa
namespace Go.Proofs.YtogflfepkddbhaaDoor.Rg
set_option linter.unusedVariables false

/-- Have the edges a b and b c more than b in common? -/
def foF (ax ay bx by' cx cy : Int) : Bool := (!(decide (cx = bx) && decide (cy = by')) && onG ax ay bx by' cx cy) || (!(decide (ax = bx) && decide (ay = by')) && onG bx by' cx cy ax ay)
/-- Do the segments c a and c b go the same way from c? -/
def ovF (ax ay cx cy bx by' : Int) : Bool := !(decide (ax = cx) && decide (ay = cy)) && (!(decide (bx = cx) && decide (by' = cy)) && (decide (cr cx cy ax ay bx by' = 0) && decide (0 < (ax - cx) * (bx - cx) + (ay - cy) * (by' - cy))))
theorem pos_of_mul {a b : Int} (ha : 0 < a) (h : 0 ≤ a * b) : 0 ≤ b := by
  rcases Int.lt_or_le b 0 with h1 | h1
  · have := Int.mul_neg_of_pos_of_neg ha h1; omega
  · exact h1
theorem neg_of_mul {a b : Int} (ha : a < 0) (h : 0 ≤ a * b) : b ≤ 0 := by
  rcases Int.lt_or_le 0 b with h1 | h1
  · have := Int.mul_neg_of_neg_of_pos ha h1; omega
  · exact h1
theorem same_dir {u1 u2 v1 v2 : Int} (hc : u1 * v2 = u2 * v1) (hd : 0 < u1 * v1 + u2 * v2) : 0 ≤ u1 * v1 ∧ 0 ≤ u2 * v2 := by
  have e : (u1 * v1) * (u2 * v2) = (u1 * v2) * (u1 * v2) := by
    have : (u1 * v1) * (u2 * v2) = (u1 * v2) * (u2 * v1) := by grind
    rw [this, ← hc]
  have h0 : 0 ≤ (u1 * v2) * (u1 * v2) := by
    rcases Int.le_total 0 (u1 * v2) with h | h
    · exact Int.mul_nonneg h h
    · exact Int.mul_nonneg_of_nonpos_of_nonpos h h
  constructor
  · rcases Int.lt_or_le (u1 * v1) 0 with h | h
    · have : 0 < u2 * v2 := by omega
      have := Int.mul_neg_of_neg_of_pos h this
      omega
    · exact h
  · rcases Int.lt_or_le (u2 * v2) 0 with h | h
    · have : 0 < u1 * v1 := by omega
      have := Int.mul_neg_of_pos_of_neg this h
      omega
    · exact h
theorem bet0 {u v : Int} (h : 0 ≤ u * v) (hv : v.natAbs ≤ u.natAbs) : (0 ≤ v ∧ v ≤ u) ∨ (u ≤ v ∧ v ≤ 0) := by
  rcases Int.lt_trichotomy u 0 with h1 | h1 | h1
  · have := neg_of_mul h1 h; omega
  · omega
  · have := pos_of_mul h1 h; omega
theorem prop_abs {u1 u2 v1 v2 : Int} (hc : u1 * v2 = u2 * v1) (h : v1.natAbs ≤ u1.natAbs) (h0 : u1 ≠ 0) : v2.natAbs ≤ u2.natAbs := by
  have e : u1.natAbs * v2.natAbs = u2.natAbs * v1.natAbs := by rw [← Int.natAbs_mul, ← Int.natAbs_mul, hc]
  have h2 : u2.natAbs * v1.natAbs ≤ u2.natAbs * u1.natAbs := Nat.mul_le_mul_left _ h
  rw [← e, Nat.mul_comm] at h2
  exact Nat.le_of_mul_le_mul_right h2 (by omega)
/-- Of two that go the same way the one lies within the other. -/
theorem dir_within {u1 u2 v1 v2 : Int} (hc : u1 * v2 = u2 * v1) (hd : 0 < u1 * v1 + u2 * v2) :
    (v1.natAbs ≤ u1.natAbs ∧ v2.natAbs ≤ u2.natAbs) ∨ (u1.natAbs ≤ v1.natAbs ∧ u2.natAbs ≤ v2.natAbs) := by
  by_cases hu : u1 = 0
  · subst hu
    have h1 : u2 * v1 = 0 := by rw [← hc]; simp
    have h2 : u2 ≠ 0 := by rintro rfl; simp at hd
    have h3 : v1 = 0 := by
      rcases Int.mul_eq_zero.1 h1 with h | h
      · exact absurd h h2
      · exact h
    subst h3
    rcases Nat.le_total v2.natAbs u2.natAbs with h | h
    · exact Or.inl ⟨Nat.le_refl _, h⟩
    · exact Or.inr ⟨Nat.le_refl _, h⟩
  by_cases hv : v1 = 0
  · subst hv
    have h1 : u1 * v2 = 0 := by rw [hc]; simp
    have h3 : v2 = 0 := by
      rcases Int.mul_eq_zero.1 h1 with h | h
      · exact absurd h hu
      · exact h
    subst h3
    simp at hd
  rcases Nat.le_total v1.natAbs u1.natAbs with h | h
  · exact Or.inl ⟨h, prop_abs hc h hu⟩
  · exact Or.inr ⟨h, prop_abs (u1 := v1) (u2 := v2) (v1 := u1) (v2 := u2) (by rw [Int.mul_comm, ← hc, Int.mul_comm]) h hv⟩
theorem onG_near {ax ay bx by' px py : Int} (h1 : nearB ax ay = true) (h2 : nearB bx by' = true) (h3 : nearB px py = true) : onG ax ay bx by' px py = onF ax ay bx by' px py := by
  unfold onG; rw [h1, h2, h3]; rfl
theorem bet_mul {a b p : Int} (h : (a ≤ p ∧ p ≤ b) ∨ (b ≤ p ∧ p ≤ a)) : 0 ≤ (a - b) * (p - b) := by
  rcases h with h | h
  · exact Int.mul_nonneg_of_nonpos_of_nonpos (by omega) (by omega)
  · exact Int.mul_nonneg (by omega) (by omega)
theorem bet_pos {a b p : Int} (h : (a ≤ p ∧ p ≤ b) ∨ (b ≤ p ∧ p ≤ a)) (hp : p ≠ b) : 0 < (a - b) * (p - b) := by
  rcases h with h | h
  · exact Int.mul_pos_of_neg_of_neg (by omega) (by omega)
  · exact Int.mul_pos (by omega) (by omega)
/-- A point of a b that is not b: both go the same way from b. -/
theorem ov_of_on {ax ay bx by' px py : Int} (h : onF ax ay bx by' px py = true) (hp : ¬ (px = bx ∧ py = by')) :
    ¬ (ax = bx ∧ ay = by') ∧ cr bx by' ax ay px py = 0 ∧ 0 < (ax - bx) * (px - bx) + (ay - by') * (py - by') := by
  rw [onF_iff, btw_iff] at h
  obtain ⟨⟨h1, h2⟩, h3⟩ := h
  refine ⟨?_, ?_, ?_⟩
  · rintro ⟨e1, e2⟩; exact hp ⟨by omega, by omega⟩
  · unfold cr at *; grind
  · by_cases hx : px = bx
    · have hy : py ≠ by' := fun e => hp ⟨hx, e⟩
      have := bet_mul h1
      have := bet_pos h2 hy
      omega
    · have := bet_pos h1 hx
      have := bet_mul h2
      omega
theorem on_of_ov {ax ay bx by' px py : Int} (hc : cr bx by' ax ay px py = 0) (h1 : 0 ≤ (ax - bx) * (px - bx)) (h2 : 0 ≤ (ay - by') * (py - by')) (h3 : (px - bx).natAbs ≤ (ax - bx).natAbs) (h4 : (py - by').natAbs ≤ (ay - by').natAbs) :
    onF ax ay bx by' px py = true := by
  rw [onF_iff, btw_iff]
  have k1 := bet0 h1 h3
  have k2 := bet0 h2 h4
  refine ⟨⟨by omega, by omega⟩, ?_⟩
  unfold cr at *; grind
theorem fo_ov {ax ay bx by' cx cy : Int} (h1 : nearB ax ay = true) (h2 : nearB bx by' = true) (h3 : nearB cx cy = true) : foF ax ay bx by' cx cy = ovF ax ay bx by' cx cy := by
  unfold foF
  rw [onG_near h1 h2 h3, onG_near h2 h3 h1, Bool.eq_iff_iff]
  unfold ovF
  simp only [Bool.or_eq_true, Bool.and_eq_true, Bool.not_eq_true', decide_eq_true_eq, ← Bool.not_eq_true]
  constructor
  · rintro (⟨k1, k2⟩ | ⟨k1, k2⟩)
    · obtain ⟨j1, j2, j3⟩ := ov_of_on k2 k1
      exact ⟨j1, k1, j2, j3⟩
    · have k2' : onF cx cy bx by' ax ay = true := by
        rw [onF_iff, btw_iff] at k2 ⊢
        refine ⟨⟨by omega, by omega⟩, ?_⟩
        have := k2.2
        unfold cr at *; grind
      obtain ⟨j1, j2, j3⟩ := ov_of_on k2' k1
      refine ⟨k1, j1, ?_, ?_⟩
      · unfold cr at *; grind
      · grind
  · rintro ⟨k1, k2, k3, k4⟩
    have hc : (ax - bx) * (cy - by') = (ay - by') * (cx - bx) := by unfold cr at k3; grind
    obtain ⟨s1, s2⟩ := same_dir hc k4
    rcases dir_within hc k4 with ⟨w1, w2⟩ | ⟨w1, w2⟩
    · left
      exact ⟨k2, on_of_ov k3 s1 s2 w1 w2⟩
    · right
      refine ⟨k1, ?_⟩
      have k3' : cr bx by' cx cy ax ay = 0 := by unfold cr at *; grind
      have := on_of_ov k3' (by rw [Int.mul_comm]; exact s1) (by rw [Int.mul_comm]; exact s2) w1 w2
      rw [onF_iff, btw_iff] at this ⊢
      refine ⟨⟨by omega, by omega⟩, ?_⟩
      have := this.2
      unfold cr at *; grind
theorem fo_flip (ax ay bx by' cx cy : Int) : foF cx cy bx by' ax ay = foF ax ay bx by' cx cy := by
  have e : ∀ ax ay bx by' px py, onG bx by' ax ay px py = onG ax ay bx by' px py := by
    intro ax ay bx by' px py
    have h : onF bx by' ax ay px py = onF ax ay bx by' px py := by
      rw [Bool.eq_iff_iff, onF_iff, onF_iff, btw_iff, btw_iff]
      unfold cr
      constructor
      · rintro ⟨⟨h1, h2⟩, h3⟩; exact ⟨⟨by omega, by omega⟩, by grind⟩
      · rintro ⟨⟨h1, h2⟩, h3⟩; exact ⟨⟨by omega, by omega⟩, by grind⟩
    unfold onG
    rw [h]
    cases nearB ax ay <;> cases nearB bx by' <;> cases nearB px py <;> rfl
  unfold foF
  rw [e bx by' cx cy ax ay, e ax ay bx by' cx cy, Bool.or_comm]
/-- The corner behind the i-th. -/
def nx1 (n i : Nat) : Nat := if i + 1 = n then 0 else i + 1
/-- Have the i-th edge and a later one, the j-th, more in common than a ring allows? -/
def clF (n : Nat) (X Y : Nat → Int) (i j : Nat) : Bool :=
  if j = i + 1 then foF (X i) (Y i) (X j) (Y j) (X (nx1 n j)) (Y (nx1 n j))
  else if i = 0 ∧ j + 1 = n then foF (X j) (Y j) (X 0) (Y 0) (X 1) (Y 1)
  else meG (X i) (Y i) (X (i + 1)) (Y (i + 1)) (X j) (Y j) (X (nx1 n j)) (Y (nx1 n j))
/-- Are the i-th and the j-th to blame together? -/
def bdF (n : Nat) (X Y : Nat → Int) (i j : Nat) : Bool := (decide (X i = X j) && decide (Y i = Y j)) || clF n X Y i j
def rowF (n : Nat) (X Y : Nat → Int) (i : Nat) : Bool := (List.range n).any fun j => decide (i < j) && bdF n X Y i j
/-- What is said of a ring: a number, and who is to blame. -/
def ringC (n : Nat) (X Y : Nat → Int) : Nat × Nat :=
  if n < 3 ∨ 64 < n then (3, n)
  else match (List.range n).find? (fun i => !nearB (X i) (Y i)) with
    | some i => (2, i)
    | none => match (List.range n).find? (rowF n X Y) with
      | some i => (4, i)
      | none => (0, 0)
theorem find_some {p : Nat → Bool} {n i : Nat} (hi : i < n) (h1 : p i = true) (h2 : ∀ k, k < i → p k = false) : (List.range n).find? p = some i := by
  rw [List.find?_range_eq_some]
  exact ⟨h1, List.mem_range.2 hi, fun k hk => by rw [h2 k hk]; rfl⟩
theorem find_none {p : Nat → Bool} {n : Nat} (h : ∀ k, k < n → p k = false) : (List.range n).find? p = none := by
  rw [List.find?_range_eq_none]
  intro k hk
  rw [h k hk]; rfl
theorem rowF_iff {n : Nat} {X Y : Nat → Int} {i : Nat} : rowF n X Y i = true ↔ ∃ j, i < j ∧ j < n ∧ bdF n X Y i j = true := by
  unfold rowF
  rw [List.any_eq_true]
  constructor
  · rintro ⟨j, h1, h2⟩
    rw [Bool.and_eq_true, decide_eq_true_eq] at h2
    exact ⟨j, h2.1, List.mem_range.1 h1, h2.2⟩
  · rintro ⟨j, h1, h2, h3⟩
    exact ⟨j, List.mem_range.2 h2, by rw [h3, decide_eq_true h1]; rfl⟩
theorem rowF_no {n : Nat} {X Y : Nat → Int} {i : Nat} (h : ∀ j, i < j → j < n → bdF n X Y i j = false) : rowF n X Y i = false := by
  rw [← Bool.not_eq_true, rowF_iff]
  rintro ⟨j, h1, h2, h3⟩
  rw [h j h1 h2] at h3
  cases h3
theorem ringC_3 {n : Nat} {X Y : Nat → Int} (h : n < 3 ∨ 64 < n) : ringC n X Y = (3, n) := by unfold ringC; rw [if_pos h]
theorem ringC_2 {n : Nat} {X Y : Nat → Int} (h : ¬ (n < 3 ∨ 64 < n)) {i : Nat} (hi : i < n) (h1 : nearB (X i) (Y i) = false) (h2 : ∀ k, k < i → nearB (X k) (Y k) = true) : ringC n X Y = (2, i) := by
  unfold ringC; rw [if_neg h, find_some hi (by rw [h1]; rfl) (fun k hk => by rw [h2 k hk]; rfl)]
theorem ringC_4 {n : Nat} {X Y : Nat → Int} (h : ¬ (n < 3 ∨ 64 < n)) (hn : ∀ k, k < n → nearB (X k) (Y k) = true) {i j : Nat} (hi : i < j) (hj : j < n) (h1 : bdF n X Y i j = true) (h2 : ∀ k, k < i → ∀ m, k < m → m < n → bdF n X Y k m = false) : ringC n X Y = (4, i) := by
  unfold ringC
  rw [if_neg h, find_none (fun k hk => by rw [hn k hk]; rfl)]
  show (match (List.range n).find? (rowF n X Y) with | some i => (4, i) | none => (0, 0)) = (4, i)
  rw [find_some (by omega) (rowF_iff.2 ⟨j, hi, hj, h1⟩) (fun k hk => rowF_no (h2 k hk))]
theorem ringC_0 {n : Nat} {X Y : Nat → Int} (h : ¬ (n < 3 ∨ 64 < n)) (hn : ∀ k, k < n → nearB (X k) (Y k) = true) (h2 : ∀ k, k < n → ∀ m, k < m → m < n → bdF n X Y k m = false) : ringC n X Y = (0, 0) := by
  unfold ringC
  rw [if_neg h, find_none (fun k hk => by rw [hn k hk]; rfl)]
  show (match (List.range n).find? (rowF n X Y) with | some i => (4, i) | none => (0, 0)) = (0, 0)
  rw [find_none (fun k hk => rowF_no (h2 k hk))]
/-- A ring that may be. -/
theorem ringC_ok {n : Nat} {X Y : Nat → Int} (h : (ringC n X Y).1 = 0) : ¬ (n < 3 ∨ 64 < n) ∧ (∀ k, k < n → nearB (X k) (Y k) = true) ∧ (∀ k m, k < m → m < n → bdF n X Y k m = false) ∧ ringC n X Y = (0, 0) := by
  unfold ringC at h
  by_cases h0 : n < 3 ∨ 64 < n
  · rw [if_pos h0] at h; cases h
  rw [if_neg h0] at h
  have key : (∀ k, k < n → nearB (X k) (Y k) = true) ∧ (∀ k m, k < m → m < n → bdF n X Y k m = false) := by
    cases e1 : (List.range n).find? (fun i => !nearB (X i) (Y i)) with
    | some i => rw [e1] at h; cases h
    | none =>
      rw [e1] at h
      replace h : (match (List.range n).find? (rowF n X Y) with | some i => (4, i) | none => (0, 0)).1 = 0 := h
      cases e2 : (List.range n).find? (rowF n X Y) with
      | some i => rw [e2] at h; cases h
      | none =>
        rw [List.find?_range_eq_none] at e1 e2
        refine ⟨fun k hk => ?_, fun k m hkm hm => ?_⟩
        · have := e1 k hk; simpa using this
        · have h3 := e2 k (by omega)
          rw [← Bool.not_eq_true]
          intro h4
          rw [rowF_iff.2 ⟨m, hkm, hm, h4⟩] at h3
          cases h3
  exact ⟨h0, key.1, key.2, ringC_0 h0 key.1 (fun k hk m => key.2 k m)⟩
theorem ringC_le (n : Nat) (X Y : Nat → Int) : (ringC n X Y).1 ≤ 4 := by
  unfold ringC
  split
  · simp
  · split
    · simp
    · split <;> simp
theorem ringC_val (n : Nat) (X Y : Nat → Int) : (ringC n X Y).1 = 0 ∨ (ringC n X Y).1 = 2 ∨ (ringC n X Y).1 = 3 ∨ (ringC n X Y).1 = 4 := by
  unfold ringC
  split
  · simp
  · split
    · simp
    · split <;> simp
theorem clF_congr {n : Nat} {X Y P Q : Nat → Int} (h : ∀ k, k < n → X k = P k ∧ Y k = Q k) {i j : Nat} (hi : i < j) (hj : j < n) : clF n X Y i j = clF n P Q i j := by
  have hx : nx1 n j < n := by unfold nx1; split <;> omega
  unfold clF
  rw [(h i (by omega)).1, (h i (by omega)).2, (h j hj).1, (h j hj).2, (h _ hx).1, (h _ hx).2, (h 0 (by omega)).1, (h 0 (by omega)).2, (h 1 (by omega)).1, (h 1 (by omega)).2, (h (i+1) (by omega)).1, (h (i+1) (by omega)).2]
/-- Corners on a curve that bends one way. -/
def cvX (k : Nat) : Int := 10 * (k : Int)
def cvY (k : Nat) : Int := 10 * (k : Int) * (k : Int)
theorem cv_cr (a b c : Nat) : cr (cvX a) (cvY a) (cvX b) (cvY b) (cvX c) (cvY c) = 100 * (((b : Int) - a) * (((c : Int) - a) * ((c : Int) - b))) := by
  unfold cr cvX cvY; grind
theorem cv_ne {a b c : Nat} (h1 : a ≠ b) (h2 : a ≠ c) (h3 : b ≠ c) : cr (cvX a) (cvY a) (cvX b) (cvY b) (cvX c) (cvY c) ≠ 0 := by
  rw [cv_cr]
  have : ((b : Int) - a) * (((c : Int) - a) * ((c : Int) - b)) ≠ 0 := Int.mul_ne_zero (by omega) (Int.mul_ne_zero (by omega) (by omega))
  omega
theorem cv_on {a b c : Nat} (h1 : a ≠ b) (h2 : a ≠ c) (h3 : b ≠ c) : onF (cvX a) (cvY a) (cvX b) (cvY b) (cvX c) (cvY c) = false := by
  rw [← Bool.not_eq_true, onF_iff]
  rintro ⟨-, h⟩
  exact cv_ne h1 h2 h3 h
theorem cv_onG {a b c : Nat} (h1 : a ≠ b) (h2 : a ≠ c) (h3 : b ≠ c) : onG (cvX a) (cvY a) (cvX b) (cvY b) (cvX c) (cvY c) = false := by
  unfold onG; rw [cv_on h1 h2 h3, Bool.and_false]
theorem cv_fo {a b c : Nat} (h1 : a ≠ b) (h2 : a ≠ c) (h3 : b ≠ c) : foF (cvX a) (cvY a) (cvX b) (cvY b) (cvX c) (cvY c) = false := by
  unfold foF; rw [cv_onG h1 h2 h3, cv_onG h3 (Ne.symm h1) (Ne.symm h2), Bool.and_false, Bool.and_false]; rfl
theorem cv_pos {a c : Nat} (h : a + 1 ≠ c) (h2 : a ≠ c) : 0 < cr (cvX a) (cvY a) (cvX (a + 1)) (cvY (a + 1)) (cvX c) (cvY c) := by
  rw [cv_cr]
  have e : (((a + 1 : Nat) : Int) - a) = 1 := by omega
  rw [e, Int.one_mul]
  have : 0 < ((c : Int) - a) * ((c : Int) - ((a + 1 : Nat) : Int)) := by
    rcases Nat.lt_or_ge a c with h3 | h3
    · exact Int.mul_pos (by omega) (by omega)
    · exact Int.mul_pos_of_neg_of_neg (by omega) (by omega)
  omega
theorem cv_me {a c d : Nat} (h1 : a ≠ c) (h2 : a ≠ d) (h3 : a + 1 ≠ c) (h4 : a + 1 ≠ d) (h5 : c ≠ d) : meF (cvX a) (cvY a) (cvX (a + 1)) (cvY (a + 1)) (cvX c) (cvY c) (cvX d) (cvY d) = false := by
  have en : enF (cvX a) (cvY a) (cvX (a + 1)) (cvY (a + 1)) (cvX c) (cvY c) (cvX d) (cvY d) = false := by
    unfold enF
    rw [cv_on (by omega) h1 h3, cv_on (by omega) h2 h4, cv_on h5 (Ne.symm h1) (Ne.symm h2), cv_on h5 (Ne.symm h3) (Ne.symm h4)]; rfl
  have pr : prF (cvX a) (cvY a) (cvX (a + 1)) (cvY (a + 1)) (cvX c) (cvY c) (cvX d) (cvY d) = false := by
    unfold prF
    have e1 : sg (cvX a) (cvY a) (cvX (a + 1)) (cvY (a + 1)) (cvX c) (cvY c) = 1 := by
      have := sg_cases (cvX a) (cvY a) (cvX (a + 1)) (cvY (a + 1)) (cvX c) (cvY c)
      have := cv_pos h3 h1
      omega
    have e2 : sg (cvX a) (cvY a) (cvX (a + 1)) (cvY (a + 1)) (cvX d) (cvY d) = 1 := by
      have := sg_cases (cvX a) (cvY a) (cvX (a + 1)) (cvY (a + 1)) (cvX d) (cvY d)
      have := cv_pos h4 h2
      omega
    rw [e1, e2]; rfl
  unfold meF; rw [en, pr]; rfl
theorem cv_near {k : Nat} (h : k < 64) : nearB (cvX k) (cvY k) = true := by
  have h2 : (k : Int) * (k : Int) ≤ 64 * 64 := Int.mul_le_mul (by omega) (by omega) (by omega) (by omega)
  have h3 : 0 ≤ (k : Int) * (k : Int) := Int.mul_nonneg (by omega) (by omega)
  have e : cvY k = 10 * ((k : Int) * (k : Int)) := by unfold cvY; rw [Int.mul_assoc]
  unfold nearB
  rw [e]
  unfold cvX
  simp; omega
theorem cv_ring {n : Nat} (h1 : 3 ≤ n) (h2 : n ≤ 64) : ringC n cvX cvY = (0, 0) := by
  refine ringC_0 (by omega) (fun k hk => cv_near (by omega)) fun i hi j hij hj => ?_
  unfold bdF
  have e : (decide (cvX i = cvX j) && decide (cvY i = cvY j)) = false := by
    have : ¬ cvX i = cvX j := by unfold cvX; omega
    rw [decide_eq_false this]; rfl
  rw [e, Bool.false_or]
  unfold clF
  by_cases h : j = i + 1
  · rw [if_pos h]
    have : nx1 n j ≠ i ∧ nx1 n j ≠ j := by unfold nx1; split <;> omega
    exact cv_fo (by omega) (Ne.symm this.1) (Ne.symm this.2)
  rw [if_neg h]
  by_cases h0 : i = 0 ∧ j + 1 = n
  · rw [if_pos h0]
    exact cv_fo (by omega) (by omega) (by omega)
  rw [if_neg h0]
  have : nx1 n j ≠ i ∧ nx1 n j ≠ i + 1 ∧ nx1 n j ≠ j := by unfold nx1; split <;> omega
  unfold meG
  rw [cv_me (by omega) (Ne.symm this.1) (by omega) (Ne.symm this.2.1) (Ne.symm this.2.2), Bool.and_false]
/-- Two corners alike, and it is none. -/
theorem ring_alike {n : Nat} {X Y : Nat → Int} (h : ¬ (n < 3 ∨ 64 < n)) (hn : ∀ k, k < n → nearB (X k) (Y k) = true) {i j : Nat} (hij : i < j) (hj : j < n) (ex : X i = X j) (ey : Y i = Y j) : (ringC n X Y).1 = 4 := by
  rcases ringC_val n X Y with e | e | e | e
  · obtain ⟨-, -, h2, -⟩ := ringC_ok e
    have := h2 i j hij hj
    unfold bdF at this
    rw [decide_eq_true ex, decide_eq_true ey] at this
    cases this
  · unfold ringC at e
    rw [if_neg h, find_none (fun k hk => by rw [hn k hk]; rfl)] at e
    replace e : (match (List.range n).find? (rowF n X Y) with | some i => (4, i) | none => (0, 0)).1 = 2 := e
    split at e <;> cases e
  · unfold ringC at e
    rw [if_neg h, find_none (fun k hk => by rw [hn k hk]; rfl)] at e
    replace e : (match (List.range n).find? (rowF n X Y) with | some i => (4, i) | none => (0, 0)).1 = 3 := e
    split at e <;> cases e
  · exact e
/-- A corner put in the place of another one. -/
def putF (F : Nat → Int) (i j : Nat) (k : Nat) : Int := if k = i then F j else F k
theorem cv_put {n i j : Nat} (h1 : 3 ≤ n) (h2 : n ≤ 64) (hi : i < n) (hj : j < n) (hij : i ≠ j) : (ringC n (putF cvX i j) (putF cvY i j)).1 = 4 := by
  have hn : ∀ k, k < n → nearB (putF cvX i j k) (putF cvY i j k) = true := fun k hk => by
    unfold putF
    by_cases h : k = i
    · rw [if_pos h, if_pos h]; exact cv_near (by omega)
    · rw [if_neg h, if_neg h]; exact cv_near (by omega)
  have e : ∀ F, putF F i j i = putF F i j j := fun F => by unfold putF; rw [if_pos rfl, if_neg (Ne.symm hij)]
  rcases Nat.lt_or_ge i j with h | h
  · exact ring_alike (by omega) hn h hj (e cvX) (e cvY)
  · exact ring_alike (by omega) hn (show j < i by omega) hi (e cvX).symm (e cvY).symm
/-- Twice the area, with its sign: by the origin. -/
def arS (n : Nat) (X Y : Nat → Int) : Nat → Int
  | 0 => 0
  | k + 1 => arS n X Y k + (X k * Y (nx1 n k) - X (nx1 n k) * Y k)
/-- The same, by the first corner. -/
def crS (n : Nat) (X Y : Nat → Int) : Nat → Int
  | 0 => 0
  | k + 1 => crS n X Y k + cr (X 0) (Y 0) (X k) (Y k) (X (nx1 n k)) (Y (nx1 n k))
theorem crS_part (n : Nat) (X Y : Nat → Int) : ∀ k, k < n → crS n X Y k = arS n X Y k + (X 0 * Y 0 - Y 0 * X 0) - (X 0 * Y k - Y 0 * X k) := by
  intro k
  induction k with
  | zero => intro _; simp [crS, arS]
  | succ k ih =>
    intro h
    have e : nx1 n k = k + 1 := by unfold nx1; rw [if_neg (by omega)]
    simp only [crS, arS]
    rw [ih (by omega), e]
    unfold cr
    grind
theorem crS_all (n : Nat) (h : 0 < n) (X Y : Nat → Int) : crS n X Y n = arS n X Y n := by
  obtain ⟨k, rfl⟩ : ∃ k, n = k + 1 := ⟨n - 1, by omega⟩
  have e : nx1 (k + 1) k = 0 := by unfold nx1; rw [if_pos rfl]
  simp only [crS, arS]
  rw [crS_part (k + 1) X Y k (by omega), e]
  unfold cr
  grind
/-- Does the edge a b go over the ray from p to the right? -/
def ovR (ax ay bx by' px py : Int) : Bool :=
  if by' ≤ py ∧ py < ay then decide (0 < cr bx by' ax ay px py)
  else if ay ≤ py ∧ py < by' then decide (0 < cr ax ay bx by' px py) else false
/-- On one of the first edges; over the ray. -/
def onN (n : Nat) (X Y : Nat → Int) (px py : Int) : Nat → Bool
  | 0 => false
  | k + 1 => onN n X Y px py k || onG (X k) (Y k) (X (nx1 n k)) (Y (nx1 n k)) px py
def odN (n : Nat) (X Y : Nat → Int) (px py : Int) : Nat → Bool
  | 0 => false
  | k + 1 => odN n X Y px py k != ovR (X k) (Y k) (X (nx1 n k)) (Y (nx1 n k)) px py
/-- In the ring, or on an edge. -/
def hasN (n : Nat) (X Y : Nat → Int) (px py : Int) : Bool := onN n X Y px py n || odN n X Y px py n
theorem onN_iff {n : Nat} {X Y : Nat → Int} {px py : Int} : ∀ k, onN n X Y px py k = true ↔ ∃ i, i < k ∧ onG (X i) (Y i) (X (nx1 n i)) (Y (nx1 n i)) px py = true := by
  intro k
  induction k with
  | zero => simp [onN]
  | succ k ih =>
    simp only [onN, Bool.or_eq_true, ih]
    constructor
    · rintro (⟨i, h1, h2⟩ | h)
      · exact ⟨i, by omega, h2⟩
      · exact ⟨k, by omega, h⟩
    · rintro ⟨i, h1, h2⟩
      rcases Nat.lt_succ_iff_lt_or_eq.1 h1 with h | rfl
      · exact Or.inl ⟨i, h, h2⟩
      · exact Or.inr h2
theorem arS_congr {n : Nat} {X Y P Q : Nat → Int} (h : ∀ k, k < n → X k = P k ∧ Y k = Q k) : ∀ k, k ≤ n → arS n X Y k = arS n P Q k := by
  intro k
  induction k with
  | zero => intro _; rfl
  | succ k ih =>
    intro hk
    have hx : nx1 n k < n := by unfold nx1; split <;> omega
    simp only [arS]
    rw [ih (by omega), (h k hk).1, (h k hk).2, (h _ hx).1, (h _ hx).2]
/-! the same, moved -/
theorem nearB_iff' {x y : Int} : nearB x y = true ↔ -1073741823 ≤ x ∧ x ≤ 1073741823 ∧ -1073741823 ≤ y ∧ y ≤ 1073741823 := by
  unfold nearB; simp [and_assoc]
theorem mv_cr (ax ay bx by' cx cy x y : Int) : cr (ax + x) (ay + y) (bx + x) (by' + y) (cx + x) (cy + y) = cr ax ay bx by' cx cy := by
  unfold cr; grind
theorem mv_on (ax ay bx by' cx cy x y : Int) : onF (ax + x) (ay + y) (bx + x) (by' + y) (cx + x) (cy + y) = onF ax ay bx by' cx cy := by
  rw [Bool.eq_iff_iff, onF_iff, onF_iff, btw_iff, btw_iff, mv_cr]
  constructor
  · rintro ⟨⟨h1, h2⟩, h3⟩; exact ⟨⟨by omega, by omega⟩, h3⟩
  · rintro ⟨⟨h1, h2⟩, h3⟩; exact ⟨⟨by omega, by omega⟩, h3⟩
theorem mv_me (ax ay bx by' cx cy dx dy x y : Int) : meF (ax + x) (ay + y) (bx + x) (by' + y) (cx + x) (cy + y) (dx + x) (dy + y) = meF ax ay bx by' cx cy dx dy := by
  unfold meF prF enF sg
  simp only [mv_cr, mv_on]
section
variable {n : Nat} {X Y : Nat → Int} {x y : Int} (h1 : ∀ k, k < n → nearB (X k) (Y k) = true) (h2 : ∀ k, k < n → nearB (X k + x) (Y k + y) = true)
include h1 h2
theorem mv_fo {i j k : Nat} (hi : i < n) (hj : j < n) (hk : k < n) : foF (X i + x) (Y i + y) (X j + x) (Y j + y) (X k + x) (Y k + y) = foF (X i) (Y i) (X j) (Y j) (X k) (Y k) := by
  unfold foF onG
  rw [h1 i hi, h1 j hj, h1 k hk, h2 i hi, h2 j hj, h2 k hk, mv_on, mv_on]
  have e : ∀ a b c d e f : Int, (decide (a + x = b + x) && decide (c + y = d + y)) = (decide (a = b) && decide (c = d)) := fun a b c d e f => by
    rw [Bool.eq_iff_iff]; simp only [Bool.and_eq_true, decide_eq_true_eq]; omega
  rw [e _ _ _ _ 0 0, e _ _ _ _ 0 0]
theorem mv_bd {i j : Nat} (hij : i < j) (hj : j < n) : bdF n (fun k => X k + x) (fun k => Y k + y) i j = bdF n X Y i j := by
  have hx : nx1 n j < n := by unfold nx1; split <;> omega
  have e : (decide (X i + x = X j + x) && decide (Y i + y = Y j + y)) = (decide (X i = X j) && decide (Y i = Y j)) := by
    rw [Bool.eq_iff_iff]; simp only [Bool.and_eq_true, decide_eq_true_eq]; omega
  unfold bdF clF
  simp only []
  rw [e, mv_fo h1 h2 (by omega : i < n) hj hx]
  by_cases c1 : j = i + 1
  · rw [if_pos c1, if_pos c1]
  rw [if_neg c1, if_neg c1, mv_fo h1 h2 hj (by omega : 0 < n) (by omega : 1 < n)]
  by_cases c2 : i = 0 ∧ j + 1 = n
  · rw [if_pos c2, if_pos c2]
  rw [if_neg c2, if_neg c2]
  unfold meG all4
  rw [mv_me, h1 i (by omega), h1 (i + 1) (by omega), h1 j hj, h1 _ hx, h2 i (by omega), h2 (i + 1) (by omega), h2 j hj, h2 _ hx]
theorem mv_row {i : Nat} : rowF n (fun k => X k + x) (fun k => Y k + y) i = rowF n X Y i := by
  rw [Bool.eq_iff_iff, rowF_iff, rowF_iff]
  constructor
  · rintro ⟨j, k1, k2, k3⟩; exact ⟨j, k1, k2, by rw [← mv_bd h1 h2 k1 k2]; exact k3⟩
  · rintro ⟨j, k1, k2, k3⟩; exact ⟨j, k1, k2, by rw [mv_bd h1 h2 k1 k2]; exact k3⟩
theorem mv_ring : ringC n (fun k => X k + x) (fun k => Y k + y) = ringC n X Y := by
  have e : rowF n (fun k => X k + x) (fun k => Y k + y) = rowF n X Y := funext fun i => mv_row h1 h2
  unfold ringC
  rw [find_none (p := fun i => !nearB (X i) (Y i)) (fun k hk => by rw [h1 k hk]; rfl), find_none (p := fun i => !nearB (X i + x) (Y i + y)) (fun k hk => by rw [h2 k hk]; rfl), e]
end
theorem mv_crS (n : Nat) (X Y : Nat → Int) (x y : Int) : ∀ k, crS n (fun k => X k + x) (fun k => Y k + y) k = crS n X Y k := by
  intro k
  induction k with
  | zero => rfl
  | succ k ih => simp only [crS]; rw [ih, mv_cr]
theorem mv_ovR (ax ay bx by' px py x y : Int) : ovR (ax + x) (ay + y) (bx + x) (by' + y) (px + x) (py + y) = ovR ax ay bx by' px py := by
  unfold ovR
  simp only [mv_cr, Int.add_le_add_iff_right, Int.add_lt_add_iff_right]
theorem mv_odN (n : Nat) (X Y : Nat → Int) (px py x y : Int) : ∀ k, odN n (fun k => X k + x) (fun k => Y k + y) (px + x) (py + y) k = odN n X Y px py k := by
  intro k
  induction k with
  | zero => rfl
  | succ k ih => simp only [odN]; rw [ih, mv_ovR]
theorem mv_onN {n : Nat} {X Y : Nat → Int} {px py x y : Int} (h1 : ∀ k, k < n → nearB (X k) (Y k) = true) (h2 : ∀ k, k < n → nearB (X k + x) (Y k + y) = true) (h3 : nearB px py = true) (h4 : nearB (px + x) (py + y) = true) :
    ∀ k, k ≤ n → onN n (fun k => X k + x) (fun k => Y k + y) (px + x) (py + y) k = onN n X Y px py k := by
  intro k
  induction k with
  | zero => intro _; rfl
  | succ k ih =>
    intro hk
    have hx : nx1 n k < n := by unfold nx1; split <;> omega
    simp only [onN]
    rw [ih (by omega)]
    unfold onG
    rw [mv_on, h1 k hk, h1 _ hx, h2 k hk, h2 _ hx, h3, h4]
theorem mv_has {n : Nat} {X Y : Nat → Int} {px py x y : Int} (h1 : ∀ k, k < n → nearB (X k) (Y k) = true) (h2 : ∀ k, k < n → nearB (X k + x) (Y k + y) = true) (h3 : nearB px py = true) (h4 : nearB (px + x) (py + y) = true) :
    hasN n (fun k => X k + x) (fun k => Y k + y) (px + x) (py + y) = hasN n X Y px py := by
  unfold hasN; rw [mv_onN h1 h2 h3 h4 n (Nat.le_refl _), mv_odN]
/-! a box's corners as a ring, and its halves -/
def qX (lx hx : Int) : Nat → Int | 0 => lx | 1 => hx | 2 => hx | _ => lx
def qY (ly hy : Int) : Nat → Int | 0 => ly | 1 => ly | 2 => hy | _ => hy
def sX (lx hx : Int) : Nat → Int | 0 => lx | _ => hx
def sY (ly hy : Int) : Nat → Int | 0 => ly | 1 => ly | _ => hy
def tX (lx hx : Int) : Nat → Int | 0 => lx | 1 => hx | _ => lx
def tY (ly hy : Int) : Nat → Int | 0 => ly | _ => hy
theorem apF_iff {ax ay bx by' cx cy dx dy : Int} : apF ax ay bx by' cx cy dx dy = true ↔ ((ax < cx ∧ ax < dx ∧ bx < cx ∧ bx < dx) ∨ (cx < ax ∧ cx < bx ∧ dx < ax ∧ dx < bx)) ∨ ((ay < cy ∧ ay < dy ∧ by' < cy ∧ by' < dy) ∨ (cy < ay ∧ cy < by' ∧ dy < ay ∧ dy < by')) := by
  unfold apF
  simp only [Bool.or_eq_true, decide_eq_true_eq, max_lt, lt_min]
  omega
theorem onG_no {ax ay bx by' px py : Int} (h : ¬ (((ax ≤ px ∧ px ≤ bx) ∨ (bx ≤ px ∧ px ≤ ax)) ∧ ((ay ≤ py ∧ py ≤ by') ∨ (by' ≤ py ∧ py ≤ ay)))) : onG ax ay bx by' px py = false := by
  unfold onG
  have : onF ax ay bx by' px py = false := by
    rw [← Bool.not_eq_true, onF_iff, btw_iff]
    rintro ⟨h1, -⟩
    exact h h1
  rw [this, Bool.and_false]
theorem foF_no {ax ay bx by' cx cy : Int} (h : ¬ (((ax ≤ cx ∧ cx ≤ bx) ∨ (bx ≤ cx ∧ cx ≤ ax)) ∧ ((ay ≤ cy ∧ cy ≤ by') ∨ (by' ≤ cy ∧ cy ≤ ay)))) (h2 : ¬ (((bx ≤ ax ∧ ax ≤ cx) ∨ (cx ≤ ax ∧ ax ≤ bx)) ∧ ((by' ≤ ay ∧ ay ≤ cy) ∨ (cy ≤ ay ∧ ay ≤ by')))) : foF ax ay bx by' cx cy = false := by
  unfold foF; rw [onG_no h, onG_no h2, Bool.and_false, Bool.and_false]; rfl
theorem near_c {lx ly hx hy : Int} (hn1 : nearB lx ly = true) (hn2 : nearB hx hy = true) : nearB hx ly = true ∧ nearB lx hy = true := by
  rw [nearB_iff'] at *; rw [nearB_iff']; omega
theorem q_ring {lx ly hx hy : Int} (hn1 : nearB lx ly = true) (hn2 : nearB hx hy = true) (h1 : lx < hx) (h2 : ly < hy) : ringC 4 (qX lx hx) (qY ly hy) = (0, 0) := by
  have hc := near_c hn1 hn2
  refine ringC_0 (by omega) (fun k hk => ?_) fun i hi j hij hj => ?_
  · match k, hk with
    | 0, _ => exact hn1
    | 1, _ => exact hc.1
    | 2, _ => exact hn2
    | 3, _ => exact hc.2
  · have m1 : meG lx ly hx ly hx hy lx hy = false := by
      unfold meG; rw [show meF lx ly hx ly hx hy lx hy = false from ?_, Bool.and_false]
      rw [← Bool.not_eq_true]; intro h; have := me_ap h; rw [← Bool.not_eq_true, apF_iff] at this; omega
    have m2 : meG hx ly hx hy lx hy lx ly = false := by
      unfold meG; rw [show meF hx ly hx hy lx hy lx ly = false from ?_, Bool.and_false]
      rw [← Bool.not_eq_true]; intro h; have := me_ap h; rw [← Bool.not_eq_true, apF_iff] at this; omega
    have e1 : (i = 0 ∧ j = 1) ∨ (i = 1 ∧ j = 2) ∨ (i = 2 ∧ j = 3) ∨ (i = 0 ∧ j = 3) ∨ (i = 0 ∧ j = 2) ∨ (i = 1 ∧ j = 3) := by omega
    unfold bdF clF
    rcases e1 with ⟨rfl, rfl⟩ | ⟨rfl, rfl⟩ | ⟨rfl, rfl⟩ | ⟨rfl, rfl⟩ | ⟨rfl, rfl⟩ | ⟨rfl, rfl⟩
    · rw [if_pos rfl, show (decide (qX lx hx 0 = qX lx hx 1) && decide (qY ly hy 0 = qY ly hy 1)) = false by simp [qX]; omega]
      show foF lx ly hx ly hx hy = false
      exact foF_no (by omega) (by omega)
    · rw [if_pos rfl, show (decide (qX lx hx 1 = qX lx hx 2) && decide (qY ly hy 1 = qY ly hy 2)) = false by simp [qX, qY]; omega]
      show foF hx ly hx hy lx hy = false
      exact foF_no (by omega) (by omega)
    · rw [if_pos rfl, show (decide (qX lx hx 2 = qX lx hx 3) && decide (qY ly hy 2 = qY ly hy 3)) = false by simp [qX]; omega]
      show foF hx hy lx hy lx ly = false
      exact foF_no (by omega) (by omega)
    · rw [if_neg (by omega), if_pos (by omega), show (decide (qX lx hx 0 = qX lx hx 3) && decide (qY ly hy 0 = qY ly hy 3)) = false by simp [qX, qY]; omega]
      show foF lx hy lx ly hx ly = false
      exact foF_no (by omega) (by omega)
    · rw [if_neg (by omega), if_neg (by omega), show (decide (qX lx hx 0 = qX lx hx 2) && decide (qY ly hy 0 = qY ly hy 2)) = false by simp [qX, qY]; omega]
      exact m1
    · rw [if_neg (by omega), if_neg (by omega), show (decide (qX lx hx 1 = qX lx hx 3) && decide (qY ly hy 1 = qY ly hy 3)) = false by simp [qX, qY]; omega]
      exact m2
theorem s_ring {lx ly hx hy : Int} (hn1 : nearB lx ly = true) (hn2 : nearB hx hy = true) (h1 : lx < hx) (h2 : ly < hy) : ringC 3 (sX lx hx) (sY ly hy) = (0, 0) := by
  have hc := near_c hn1 hn2
  refine ringC_0 (by omega) (fun k hk => ?_) fun i hi j hij hj => ?_
  · match k, hk with
    | 0, _ => exact hn1
    | 1, _ => exact hc.1
    | 2, _ => exact hn2
  · have c1 : ∀ k : Int, (k = (hx - lx) * (hy - ly) ∨ k = -((hx - lx) * (hy - ly))) → k ≠ 0 := fun k h => by
      have : (hx - lx) * (hy - ly) ≠ 0 := Int.mul_ne_zero (by omega) (by omega)
      omega
    have f : ∀ ax ay bx by' cx cy, (cr ax ay bx by' cx cy = (hx - lx) * (hy - ly) ∨ cr ax ay bx by' cx cy = -((hx - lx) * (hy - ly))) → foF ax ay bx by' cx cy = false := fun ax ay bx by' cx cy h => by
      have e : cr bx by' cx cy ax ay = cr ax ay bx by' cx cy := by unfold cr; grind
      have e1 : onF ax ay bx by' cx cy = false := by rw [← Bool.not_eq_true, onF_iff]; rintro ⟨-, h'⟩; exact c1 _ h h'
      have e2 : onF bx by' cx cy ax ay = false := by rw [← Bool.not_eq_true, onF_iff]; rintro ⟨-, h'⟩; rw [e] at h'; exact c1 _ h h'
      unfold foF onG; rw [e1, e2]; simp
    have e1 : (i = 0 ∧ j = 1) ∨ (i = 1 ∧ j = 2) ∨ (i = 0 ∧ j = 2) := by omega
    unfold bdF clF
    rcases e1 with ⟨rfl, rfl⟩ | ⟨rfl, rfl⟩ | ⟨rfl, rfl⟩
    · rw [if_pos rfl, show (decide (sX lx hx 0 = sX lx hx 1) && decide (sY ly hy 0 = sY ly hy 1)) = false by simp [sX]; omega]
      exact f lx ly hx ly hx hy (by unfold cr; first | (left; grind) | (right; grind))
    · rw [if_pos rfl, show (decide (sX lx hx 1 = sX lx hx 2) && decide (sY ly hy 1 = sY ly hy 2)) = false by simp [sX, sY]; omega]
      exact f hx ly hx hy lx ly (by unfold cr; first | (left; grind) | (right; grind))
    · rw [if_neg (by omega), if_pos (by omega), show (decide (sX lx hx 0 = sX lx hx 2) && decide (sY ly hy 0 = sY ly hy 2)) = false by simp [sX, sY]; omega]
      exact f hx hy lx ly hx ly (by unfold cr; first | (left; grind) | (right; grind))
theorem t_ring {lx ly hx hy : Int} (hn1 : nearB lx ly = true) (hn2 : nearB hx hy = true) (h1 : lx < hx) (h2 : ly < hy) : ringC 3 (tX lx hx) (tY ly hy) = (0, 0) := by
  have hc := near_c hn1 hn2
  have c1 : ∀ k : Int, (k = (hx - lx) * (hy - ly) ∨ k = -((hx - lx) * (hy - ly))) → k ≠ 0 := fun k h => by
    have : (hx - lx) * (hy - ly) ≠ 0 := Int.mul_ne_zero (by omega) (by omega)
    omega
  have f : ∀ ax ay bx by' cx cy, (cr ax ay bx by' cx cy = (hx - lx) * (hy - ly) ∨ cr ax ay bx by' cx cy = -((hx - lx) * (hy - ly))) → foF ax ay bx by' cx cy = false := fun ax ay bx by' cx cy h => by
    have e : cr bx by' cx cy ax ay = cr ax ay bx by' cx cy := by unfold cr; grind
    have e1 : onF ax ay bx by' cx cy = false := by rw [← Bool.not_eq_true, onF_iff]; rintro ⟨-, h'⟩; exact c1 _ h h'
    have e2 : onF bx by' cx cy ax ay = false := by rw [← Bool.not_eq_true, onF_iff]; rintro ⟨-, h'⟩; rw [e] at h'; exact c1 _ h h'
    unfold foF onG; rw [e1, e2]; simp
  refine ringC_0 (by omega) (fun k hk => ?_) fun i hi j hij hj => ?_
  · match k, hk with
    | 0, _ => exact hn1
    | 1, _ => exact hn2
    | 2, _ => exact hc.2
  · have e1 : (i = 0 ∧ j = 1) ∨ (i = 1 ∧ j = 2) ∨ (i = 0 ∧ j = 2) := by omega
    unfold bdF clF
    rcases e1 with ⟨rfl, rfl⟩ | ⟨rfl, rfl⟩ | ⟨rfl, rfl⟩
    · rw [if_pos rfl, show (decide (tX lx hx 0 = tX lx hx 1) && decide (tY ly hy 0 = tY ly hy 1)) = false by simp [tX, tY]; omega]
      exact f lx ly hx hy lx hy (by unfold cr; first | (left; grind) | (right; grind))
    · rw [if_pos rfl, show (decide (tX lx hx 1 = tX lx hx 2) && decide (tY ly hy 1 = tY ly hy 2)) = false by simp [tX, tY]; omega]
      exact f hx hy lx hy lx ly (by unfold cr; first | (left; grind) | (right; grind))
    · rw [if_neg (by omega), if_pos (by omega), show (decide (tX lx hx 0 = tX lx hx 2) && decide (tY ly hy 0 = tY ly hy 2)) = false by simp [tX, tY]; omega]
      exact f lx hy lx ly hx hy (by unfold cr; first | (left; grind) | (right; grind))
theorem areas (lx ly hx hy : Int) : arS 4 (qX lx hx) (qY ly hy) 4 = 2 * ((hx - lx) * (hy - ly)) ∧ arS 3 (sX lx hx) (sY ly hy) 3 = (hx - lx) * (hy - ly) ∧ arS 3 (tX lx hx) (tY ly hy) 3 = (hx - lx) * (hy - ly) := by
  refine ⟨?_, ?_, ?_⟩
  · simp [arS, qX, qY, nx1]; grind
  · simp [arS, sX, sY, nx1]; grind
  · simp [arS, tX, tY, nx1]; grind
theorem mul_lt0 {a b : Int} (ha : 0 < a) : 0 < a * b ↔ 0 < b := by
  constructor
  · intro h
    rcases Int.lt_or_le 0 b with h1 | h1
    · exact h1
    · have := Int.mul_nonpos_of_nonneg_of_nonpos (show 0 ≤ a by omega) h1; omega
  · exact Int.mul_pos ha
theorem mul_eq0 {a b : Int} (ha : 0 < a) : a * b = 0 ↔ b = 0 := by
  rw [Int.mul_eq_zero]; omega
theorem onG_hor {lx ly hx hy px py : Int} (hn1 : nearB lx ly = true) (hn2 : nearB hx hy = true) (hp : nearB px py = true) (h1 : lx < hx) (h2 : ly < hy) {a b y : Int} (ha : nearB a y = true) (hb : nearB b y = true) (hab : a ≠ b) : onG a y b y px py = true ↔ py = y ∧ ((a ≤ px ∧ px ≤ b) ∨ (b ≤ px ∧ px ≤ a)) := by
  unfold onG
  rw [ha, hb, hp, Bool.true_and, Bool.true_and, Bool.true_and, onF_iff, btw_iff]
  constructor
  · rintro ⟨⟨k1, k2⟩, -⟩; exact ⟨by omega, k1⟩
  · rintro ⟨k1, k2⟩; subst k1; exact ⟨⟨k2, by omega⟩, by unfold cr; grind⟩
theorem onG_ver {lx ly hx hy px py : Int} (hn1 : nearB lx ly = true) (hn2 : nearB hx hy = true) (hp : nearB px py = true) (h1 : lx < hx) (h2 : ly < hy) {x a b : Int} (ha : nearB x a = true) (hb : nearB x b = true) : onG x a x b px py = true ↔ px = x ∧ ((a ≤ py ∧ py ≤ b) ∨ (b ≤ py ∧ py ≤ a)) := by
  unfold onG
  rw [ha, hb, hp, Bool.true_and, Bool.true_and, Bool.true_and, onF_iff, btw_iff]
  constructor
  · rintro ⟨⟨k1, k2⟩, -⟩; exact ⟨by omega, k2⟩
  · rintro ⟨k1, k2⟩; subst k1; exact ⟨⟨by omega, k2⟩, by unfold cr; grind⟩
theorem ov_hor {lx ly hx hy px py : Int} (hn1 : nearB lx ly = true) (hn2 : nearB hx hy = true) (hp : nearB px py = true) (h1 : lx < hx) (h2 : ly < hy) (a b y : Int) : ovR a y b y px py = false := by
  unfold ovR; rw [if_neg (by omega), if_neg (by omega)]
theorem ov_up {lx ly hx hy px py : Int} (hn1 : nearB lx ly = true) (hn2 : nearB hx hy = true) (hp : nearB px py = true) (h1 : lx < hx) (h2 : ly < hy) {x a b : Int} (hab : a < b) : ovR x a x b px py = decide (a ≤ py ∧ py < b ∧ px < x) := by
  unfold ovR
  rw [if_neg (by omega)]
  by_cases h : a ≤ py ∧ py < b
  · rw [if_pos h, Bool.eq_iff_iff]
    simp only [decide_eq_true_eq]
    rw [show cr x a x b px py = (b - a) * (x - px) by unfold cr; grind, mul_lt0 (by omega)]; omega
  · rw [if_neg h]; symm; rw [decide_eq_false_iff_not]; omega
theorem ov_down {lx ly hx hy px py : Int} (hn1 : nearB lx ly = true) (hn2 : nearB hx hy = true) (hp : nearB px py = true) (h1 : lx < hx) (h2 : ly < hy) {x a b : Int} (hab : a < b) : ovR x b x a px py = decide (a ≤ py ∧ py < b ∧ px < x) := by
  unfold ovR
  by_cases h : a ≤ py ∧ py < b
  · rw [if_pos h, Bool.eq_iff_iff]
    simp only [decide_eq_true_eq]
    rw [show cr x a x b px py = (b - a) * (x - px) by unfold cr; grind, mul_lt0 (by omega)]; omega
  · rw [if_neg h, if_neg (by omega)]; symm; rw [decide_eq_false_iff_not]; omega
theorem q_has {lx ly hx hy px py : Int} (hn1 : nearB lx ly = true) (hn2 : nearB hx hy = true) (hp : nearB px py = true) (h1 : lx < hx) (h2 : ly < hy) : hasN 4 (qX lx hx) (qY ly hy) px py = true ↔ lx ≤ px ∧ px ≤ hx ∧ ly ≤ py ∧ py ≤ hy := by
  have hc := near_c hn1 hn2
  unfold hasN
  have eo : onN 4 (qX lx hx) (qY ly hy) px py 4 = (((false || onG lx ly hx ly px py) || onG hx ly hx hy px py) || onG hx hy lx hy px py || onG lx hy lx ly px py) := rfl
  have ed : odN 4 (qX lx hx) (qY ly hy) px py 4 = ((((false != ovR lx ly hx ly px py) != ovR hx ly hx hy px py) != ovR hx hy lx hy px py) != ovR lx hy lx ly px py) := rfl
  rw [eo, ed, ov_hor hn1 hn2 hp h1 h2, ov_hor hn1 hn2 hp h1 h2, ov_up hn1 hn2 hp h1 h2 h2, ov_down hn1 hn2 hp h1 h2 h2]
  simp only [Bool.or_eq_true, Bool.false_or, onG_hor hn1 hn2 hp h1 h2 hn1 hc.1 (show lx ≠ hx by omega), onG_hor hn1 hn2 hp h1 h2 hn2 hc.2 (show hx ≠ lx by omega), onG_ver hn1 hn2 hp h1 h2 hc.1 hn2, onG_ver hn1 hn2 hp h1 h2 hc.2 hn1]
  have e3 : ((((false != false) != decide (ly ≤ py ∧ py < hy ∧ px < hx)) != false) != decide (ly ≤ py ∧ py < hy ∧ px < lx)) = true ↔ (ly ≤ py ∧ py < hy ∧ lx ≤ px ∧ px < hx) := by
    by_cases a : ly ≤ py ∧ py < hy ∧ px < hx
    · by_cases b : ly ≤ py ∧ py < hy ∧ px < lx
      · rw [decide_eq_true a, decide_eq_true b]; simp; omega
      · rw [decide_eq_true a, decide_eq_false b]; simp; omega
    · rw [decide_eq_false a, decide_eq_false (by omega)]; simp; omega
  rw [e3]
  omega
/-- The diagonal's side. -/
theorem dia_eq {lx ly hx hy px py : Int} (hn1 : nearB lx ly = true) (hn2 : nearB hx hy = true) (hp : nearB px py = true) (h1 : lx < hx) (h2 : ly < hy) : cr lx ly hx hy px py = (hx - lx) * (py - ly) - (hy - ly) * (px - lx) := by unfold cr; grind
theorem dia_r {lx ly hx hy px py : Int} (hn1 : nearB lx ly = true) (hn2 : nearB hx hy = true) (hp : nearB px py = true) (h1 : lx < hx) (h2 : ly < hy) (h : hx ≤ px) (h' : py < hy) : cr lx ly hx hy px py < 0 := by
  have e : cr lx ly hx hy px py = (hx - lx) * (py - hy) - (hy - ly) * (px - hx) := by unfold cr; grind
  have k1 := Int.mul_neg_of_pos_of_neg (show 0 < hx - lx by omega) (show py - hy < 0 by omega)
  have k2 := Int.mul_nonneg (show 0 ≤ hy - ly by omega) (show 0 ≤ px - hx by omega)
  omega
theorem dia_l {lx ly hx hy px py : Int} (hn1 : nearB lx ly = true) (hn2 : nearB hx hy = true) (hp : nearB px py = true) (h1 : lx < hx) (h2 : ly < hy) (h : px < lx) (h' : ly ≤ py) : 0 < cr lx ly hx hy px py := by
  have e := dia_eq (hx := hx) (hy := hy) hn1 hn2 hp h1 h2
  have k1 := Int.mul_nonneg (show 0 ≤ hx - lx by omega) (show 0 ≤ py - ly by omega)
  have k2 := Int.mul_neg_of_pos_of_neg (show 0 < hy - ly by omega) (show px - lx < 0 by omega)
  omega
theorem dia_t {lx ly hx hy px py : Int} (hn1 : nearB lx ly = true) (hn2 : nearB hx hy = true) (hp : nearB px py = true) (h1 : lx < hx) (h2 : ly < hy) (h : py = hy) : cr lx ly hx hy px py = (hy - ly) * (hx - px) := by subst h; unfold cr; grind
theorem dia_b {lx ly hx hy px py : Int} (hn1 : nearB lx ly = true) (hn2 : nearB hx hy = true) (hp : nearB px py = true) (h1 : lx < hx) (h2 : ly < hy) (h : py = ly) : cr lx ly hx hy px py = -((hy - ly) * (px - lx)) := by subst h; unfold cr; grind
theorem dia_rr {lx ly hx hy px py : Int} (hn1 : nearB lx ly = true) (hn2 : nearB hx hy = true) (hp : nearB px py = true) (h1 : lx < hx) (h2 : ly < hy) (h : px = hx) : cr lx ly hx hy px py = -((hx - lx) * (hy - py)) := by subst h; unfold cr; grind
theorem dia_ll {lx ly hx hy px py : Int} (hn1 : nearB lx ly = true) (hn2 : nearB hx hy = true) (hp : nearB px py = true) (h1 : lx < hx) (h2 : ly < hy) (h : px = lx) : cr lx ly hx hy px py = (hx - lx) * (py - ly) := by subst h; unfold cr; grind
theorem onG_dia {lx ly hx hy px py : Int} (hn1 : nearB lx ly = true) (hn2 : nearB hx hy = true) (hp : nearB px py = true) (h1 : lx < hx) (h2 : ly < hy) : onG lx ly hx hy px py = true ↔ (lx ≤ px ∧ px ≤ hx ∧ ly ≤ py ∧ py ≤ hy) ∧ cr lx ly hx hy px py = 0 := by
  unfold onG
  rw [hn1, hn2, hp, Bool.true_and, Bool.true_and, Bool.true_and, onF_iff, btw_iff]
  constructor
  · rintro ⟨k1, k2⟩; exact ⟨by omega, k2⟩
  · rintro ⟨k1, k2⟩; exact ⟨by omega, k2⟩
theorem onG_dia' {lx ly hx hy px py : Int} (hn1 : nearB lx ly = true) (hn2 : nearB hx hy = true) (hp : nearB px py = true) (h1 : lx < hx) (h2 : ly < hy) : onG hx hy lx ly px py = true ↔ (lx ≤ px ∧ px ≤ hx ∧ ly ≤ py ∧ py ≤ hy) ∧ cr lx ly hx hy px py = 0 := by
  unfold onG
  have e : cr hx hy lx ly px py = -cr lx ly hx hy px py := by unfold cr; grind
  rw [hn1, hn2, hp, Bool.true_and, Bool.true_and, Bool.true_and, onF_iff, btw_iff, e]
  constructor
  · rintro ⟨k1, k2⟩; exact ⟨by omega, by omega⟩
  · rintro ⟨k1, k2⟩; exact ⟨by omega, by omega⟩
theorem ov_dia {lx ly hx hy px py : Int} (hn1 : nearB lx ly = true) (hn2 : nearB hx hy = true) (hp : nearB px py = true) (h1 : lx < hx) (h2 : ly < hy) : ovR lx ly hx hy px py = decide (ly ≤ py ∧ py < hy ∧ 0 < cr lx ly hx hy px py) := by
  unfold ovR
  rw [if_neg (by omega)]
  by_cases h : ly ≤ py ∧ py < hy
  · rw [if_pos h, Bool.eq_iff_iff]; simp only [decide_eq_true_eq]; omega
  · rw [if_neg h]; symm; rw [decide_eq_false_iff_not]; omega
theorem ov_dia' {lx ly hx hy px py : Int} (hn1 : nearB lx ly = true) (hn2 : nearB hx hy = true) (hp : nearB px py = true) (h1 : lx < hx) (h2 : ly < hy) : ovR hx hy lx ly px py = decide (ly ≤ py ∧ py < hy ∧ 0 < cr lx ly hx hy px py) := by
  unfold ovR
  by_cases h : ly ≤ py ∧ py < hy
  · rw [if_pos h, Bool.eq_iff_iff]; simp only [decide_eq_true_eq]; omega
  · rw [if_neg h, if_neg (by omega)]; symm; rw [decide_eq_false_iff_not]; omega
theorem xor_iff {lx ly hx hy px py : Int} (hn1 : nearB lx ly = true) (hn2 : nearB hx hy = true) (hp : nearB px py = true) (h1 : lx < hx) (h2 : ly < hy) {a b : Prop} [Decidable a] [Decidable b] : ((decide a) != (decide b)) = true ↔ ((a ∧ ¬ b) ∨ (¬ a ∧ b)) := by
  by_cases ha : a <;> by_cases hb : b <;> simp [ha, hb]
theorem s_has {lx ly hx hy px py : Int} (hn1 : nearB lx ly = true) (hn2 : nearB hx hy = true) (hp : nearB px py = true) (h1 : lx < hx) (h2 : ly < hy) : hasN 3 (sX lx hx) (sY ly hy) px py = true ↔ (lx ≤ px ∧ px ≤ hx ∧ ly ≤ py ∧ py ≤ hy) ∧ cr lx ly hx hy px py ≤ 0 := by
  have hc := near_c hn1 hn2
  unfold hasN
  have eo : onN 3 (sX lx hx) (sY ly hy) px py 3 = (((false || onG lx ly hx ly px py) || onG hx ly hx hy px py) || onG hx hy lx ly px py) := rfl
  have ed : odN 3 (sX lx hx) (sY ly hy) px py 3 = (((false != ovR lx ly hx ly px py) != ovR hx ly hx hy px py) != ovR hx hy lx ly px py) := rfl
  rw [eo, ed, ov_hor hn1 hn2 hp h1 h2, ov_up hn1 hn2 hp h1 h2 h2, ov_dia' hn1 hn2 hp h1 h2]
  simp only [Bool.or_eq_true, Bool.false_or, onG_hor hn1 hn2 hp h1 h2 hn1 hc.1 (show lx ≠ hx by omega), onG_ver hn1 hn2 hp h1 h2 hc.1 hn2, onG_dia' hn1 hn2 hp h1 h2]
  rw [show (false != false) = false from rfl, show ∀ b, (false != b) = b from fun b => by cases b <;> rfl, xor_iff hn1 hn2 hp h1 h2]
  have b1 := fun h => dia_b hn1 hn2 hp h1 h2 h
  have b2 := fun h => dia_rr hn1 hn2 hp h1 h2 h
  have b3 := fun h h' => dia_r hn1 hn2 hp h1 h2 h h'
  have b4 := fun h h' => dia_l hn1 hn2 hp h1 h2 h h'
  have b5 := fun h => dia_t hn1 hn2 hp h1 h2 h
  generalize cr lx ly hx hy px py = D at *
  constructor
  · rintro (((⟨k1, k2⟩ | ⟨k1, k2⟩) | ⟨k1, k2⟩) | (⟨k1, k2⟩ | ⟨k1, k2⟩))
    · have := Int.mul_nonneg (show 0 ≤ hy - ly by omega) (show 0 ≤ px - lx by omega)
      have := b1 k1; omega
    · have := Int.mul_nonneg (show 0 ≤ hx - lx by omega) (show 0 ≤ hy - py by omega)
      have := b2 k1; omega
    · omega
    · have k3 : ¬ px < lx := fun h => by have := b4 h k1.1; omega
      omega
    · exfalso
      have k3 : hx ≤ px := by omega
      have := b3 k3 k2.2.1
      omega
  · rintro ⟨k1, k2⟩
    by_cases e : py = hy
    · have k3 := b5 e
      have k4 : ¬ px < hx := fun h => by
        have := Int.mul_pos (show 0 < hy - ly by omega) (show 0 < hx - px by omega); omega
      left; left; right; omega
    · by_cases e2 : px = hx
      · left; left; right; omega
      · right; left; omega
theorem t_has {lx ly hx hy px py : Int} (hn1 : nearB lx ly = true) (hn2 : nearB hx hy = true) (hp : nearB px py = true) (h1 : lx < hx) (h2 : ly < hy) : hasN 3 (tX lx hx) (tY ly hy) px py = true ↔ (lx ≤ px ∧ px ≤ hx ∧ ly ≤ py ∧ py ≤ hy) ∧ 0 ≤ cr lx ly hx hy px py := by
  have hc := near_c hn1 hn2
  unfold hasN
  have eo : onN 3 (tX lx hx) (tY ly hy) px py 3 = (((false || onG lx ly hx hy px py) || onG hx hy lx hy px py) || onG lx hy lx ly px py) := rfl
  have ed : odN 3 (tX lx hx) (tY ly hy) px py 3 = (((false != ovR lx ly hx hy px py) != ovR hx hy lx hy px py) != ovR lx hy lx ly px py) := rfl
  rw [eo, ed, ov_hor hn1 hn2 hp h1 h2, ov_down hn1 hn2 hp h1 h2 h2, ov_dia hn1 hn2 hp h1 h2]
  simp only [Bool.or_eq_true, Bool.false_or, onG_hor hn1 hn2 hp h1 h2 hn2 hc.2 (show hx ≠ lx by omega), onG_ver hn1 hn2 hp h1 h2 hc.2 hn1, onG_dia hn1 hn2 hp h1 h2]
  rw [show ∀ b, (false != b) = b from fun b => by cases b <;> rfl, show ∀ b, (b != false) = b from fun b => by cases b <;> rfl, xor_iff hn1 hn2 hp h1 h2]
  have b2 := fun h => dia_ll hn1 hn2 hp h1 h2 h
  have b3 := fun h h' => dia_r hn1 hn2 hp h1 h2 h h'
  have b4 := fun h h' => dia_l hn1 hn2 hp h1 h2 h h'
  have b5 := fun h => dia_t hn1 hn2 hp h1 h2 h
  generalize cr lx ly hx hy px py = D at *
  constructor
  · rintro (((⟨k1, k2⟩ | ⟨k1, k2⟩) | ⟨k1, k2⟩) | (⟨k1, k2⟩ | ⟨k1, k2⟩))
    · omega
    · have := Int.mul_nonneg (show 0 ≤ hy - ly by omega) (show 0 ≤ hx - px by omega)
      have := b5 k1; omega
    · have := Int.mul_nonneg (show 0 ≤ hx - lx by omega) (show 0 ≤ py - ly by omega)
      have := b2 k1; omega
    · have k3 : ¬ hx ≤ px := fun h => by have := b3 h k1.2.1; omega
      omega
    · exfalso
      have := b4 k2.2.2 k2.1
      omega
  · rintro ⟨k1, k2⟩
    by_cases e : py = hy
    · left; left; right; omega
    · by_cases e2 : D = 0
      · left; left; left; omega
      · right; left; omega
end Go.Proofs.YtogflfepkddbhaaDoor.Rg
