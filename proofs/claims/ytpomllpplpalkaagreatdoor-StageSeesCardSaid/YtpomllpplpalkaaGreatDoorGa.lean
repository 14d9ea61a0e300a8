/- rings: plain facts -/
import Derived.Test.YtpomllpplpalkaaGreatDoorZd
import Derived.Test.YtpomllpplpalkaaGreatDoorZa
namespace Go.Proofs.YtpomllpplpalkaaGreatDoor.Rg
set_option linter.unusedVariables false

def foF (ax ay bx by' cx cy : Int) : Bool := (!(decide (cx = bx) && decide (cy = by')) && onG ax ay bx by' cx cy) || (!(decide (ax = bx) && decide (ay = by')) && onG bx by' cx cy ax ay)
def ovF (ax ay cx cy bx by' : Int) : Bool := !(decide (ax = cx) && decide (ay = cy)) && (!(decide (bx = cx) && decide (by' = cy)) && (decide (cr cx cy ax ay bx by' = 0) && decide (0 < (ax - cx) * (bx - cx) + (ay - cy) * (by' - cy))))
theorem pos_of_mul {a b : Int} (ha : 0 < a) (h : 0 ≤ a * b) : 0 ≤ b := by
  rcases Int.lt_or_le b 0 with h1 | h1
  · have := Int.mul_neg_of_pos_of_neg ha h1; omega
  · exact h1
theorem neg_of_mul {a b : Int} (ha : a < 0) (h : 0 ≤ a * b) : b ≤ 0 := by
  rcases Int.lt_or_le 0 b with h1 | h1
  · have := Int.mul_neg_of_neg_of_pos ha h1; omega
  · exact h1
theorem same_dir {u1 u2 v1 v2 : Int} (hc : u1 * v2 = u2 * v1) (hd : 0 < u1 * v1 + u2 * v2) : 0 ≤ u1 * v1 ∧ 0 ≤ u2 * v2 := by
  have e : (u1 * v1) * (u2 * v2) = (u1 * v2) * (u1 * v2) := by
    have : (u1 * v1) * (u2 * v2) = (u1 * v2) * (u2 * v1) := by grind
    rw [this, ← hc]
  have h0 : 0 ≤ (u1 * v2) * (u1 * v2) := by
    rcases Int.le_total 0 (u1 * v2) with h | h
    · exact Int.mul_nonneg h h
    · exact Int.mul_nonneg_of_nonpos_of_nonpos h h
  constructor
  · rcases Int.lt_or_le (u1 * v1) 0 with h | h
    · have : 0 < u2 * v2 := by omega
      have := Int.mul_neg_of_neg_of_pos h this
      omega
    · exact h
  · rcases Int.lt_or_le (u2 * v2) 0 with h | h
    · have : 0 < u1 * v1 := by omega
      have := Int.mul_neg_of_pos_of_neg this h
      omega
    · exact h
theorem bet0 {u v : Int} (h : 0 ≤ u * v) (hv : v.natAbs ≤ u.natAbs) : (0 ≤ v ∧ v ≤ u) ∨ (u ≤ v ∧ v ≤ 0) := by
  rcases Int.lt_trichotomy u 0 with h1 | h1 | h1
  · have := neg_of_mul h1 h; omega
  · omega
  · have := pos_of_mul h1 h; omega
theorem prop_abs {u1 u2 v1 v2 : Int} (hc : u1 * v2 = u2 * v1) (h : v1.natAbs ≤ u1.natAbs) (h0 : u1 ≠ 0) : v2.natAbs ≤ u2.natAbs := by
  have e : u1.natAbs * v2.natAbs = u2.natAbs * v1.natAbs := by rw [← Int.natAbs_mul, ← Int.natAbs_mul, hc]
  have h2 : u2.natAbs * v1.natAbs ≤ u2.natAbs * u1.natAbs := Nat.mul_le_mul_left _ h
  rw [← e, Nat.mul_comm] at h2
  exact Nat.le_of_mul_le_mul_right h2 (by omega)
theorem dir_within {u1 u2 v1 v2 : Int} (hc : u1 * v2 = u2 * v1) (hd : 0 < u1 * v1 + u2 * v2) :
    (v1.natAbs ≤ u1.natAbs ∧ v2.natAbs ≤ u2.natAbs) ∨ (u1.natAbs ≤ v1.natAbs ∧ u2.natAbs ≤ v2.natAbs) := by
  by_cases hu : u1 = 0
  · subst hu
    have h1 : u2 * v1 = 0 := by rw [← hc]; simp
    have h2 : u2 ≠ 0 := by rintro rfl; simp at hd
    have h3 : v1 = 0 := by
      rcases Int.mul_eq_zero.1 h1 with h | h
      · exact absurd h h2
      · exact h
    subst h3
    rcases Nat.le_total v2.natAbs u2.natAbs with h | h
    · exact Or.inl ⟨Nat.le_refl _, h⟩
    · exact Or.inr ⟨Nat.le_refl _, h⟩
  by_cases hv : v1 = 0
  · subst hv
    have h1 : u1 * v2 = 0 := by rw [hc]; simp
    have h3 : v2 = 0 := by
      rcases Int.mul_eq_zero.1 h1 with h | h
      · exact absurd h hu
      · exact h
    subst h3
    simp at hd
  rcases Nat.le_total v1.natAbs u1.natAbs with h | h
  · exact Or.inl ⟨h, prop_abs hc h hu⟩
  · exact Or.inr ⟨h, prop_abs (u1 := v1) (u2 := v2) (v1 := u1) (v2 := u2) (by rw [Int.mul_comm, ← hc, Int.mul_comm]) h hv⟩
theorem onG_near {ax ay bx by' px py : Int} (h1 : nearB ax ay = true) (h2 : nearB bx by' = true) (h3 : nearB px py = true) : onG ax ay bx by' px py = onF ax ay bx by' px py := by
  unfold onG; rw [h1, h2, h3]; rfl
theorem bet_mul {a b p : Int} (h : (a ≤ p ∧ p ≤ b) ∨ (b ≤ p ∧ p ≤ a)) : 0 ≤ (a - b) * (p - b) := by
  rcases h with h | h
  · exact Int.mul_nonneg_of_nonpos_of_nonpos (by omega) (by omega)
  · exact Int.mul_nonneg (by omega) (by omega)
theorem bet_pos {a b p : Int} (h : (a ≤ p ∧ p ≤ b) ∨ (b ≤ p ∧ p ≤ a)) (hp : p ≠ b) : 0 < (a - b) * (p - b) := by
  rcases h with h | h
  · exact Int.mul_pos_of_neg_of_neg (by omega) (by omega)
  · exact Int.mul_pos (by omega) (by omega)
theorem ov_of_on {ax ay bx by' px py : Int} (h : onF ax ay bx by' px py = true) (hp : ¬ (px = bx ∧ py = by')) :
    ¬ (ax = bx ∧ ay = by') ∧ cr bx by' ax ay px py = 0 ∧ 0 < (ax - bx) * (px - bx) + (ay - by') * (py - by') := by
  rw [onF_iff, btw_iff] at h
  obtain ⟨⟨h1, h2⟩, h3⟩ := h
  refine ⟨?_, ?_, ?_⟩
  · rintro ⟨e1, e2⟩; exact hp ⟨by omega, by omega⟩
  · unfold cr at *; grind
  · by_cases hx : px = bx
    · have hy : py ≠ by' := fun e => hp ⟨hx, e⟩
      have := bet_mul h1
      have := bet_pos h2 hy
      omega
    · have := bet_pos h1 hx
      have := bet_mul h2
      omega
theorem on_of_ov {ax ay bx by' px py : Int} (hc : cr bx by' ax ay px py = 0) (h1 : 0 ≤ (ax - bx) * (px - bx)) (h2 : 0 ≤ (ay - by') * (py - by')) (h3 : (px - bx).natAbs ≤ (ax - bx).natAbs) (h4 : (py - by').natAbs ≤ (ay - by').natAbs) :
    onF ax ay bx by' px py = true := by
  rw [onF_iff, btw_iff]
  have k1 := bet0 h1 h3
  have k2 := bet0 h2 h4
  refine ⟨⟨by omega, by omega⟩, ?_⟩
  unfold cr at *; grind
theorem fo_ov {ax ay bx by' cx cy : Int} (h1 : nearB ax ay = true) (h2 : nearB bx by' = true) (h3 : nearB cx cy = true) : foF ax ay bx by' cx cy = ovF ax ay bx by' cx cy := by
  unfold foF
  rw [onG_near h1 h2 h3, onG_near h2 h3 h1, Bool.eq_iff_iff]
  unfold ovF
  simp only [Bool.or_eq_true, Bool.and_eq_true, Bool.not_eq_true', decide_eq_true_eq, ← Bool.not_eq_true]
  constructor
  · rintro (⟨k1, k2⟩ | ⟨k1, k2⟩)
    · obtain ⟨j1, j2, j3⟩ := ov_of_on k2 k1
      exact ⟨j1, k1, j2, j3⟩
    · have k2' : onF cx cy bx by' ax ay = true := by
        rw [onF_iff, btw_iff] at k2 ⊢
        refine ⟨⟨by omega, by omega⟩, ?_⟩
        have := k2.2
        unfold cr at *; grind
      obtain ⟨j1, j2, j3⟩ := ov_of_on k2' k1
      refine ⟨k1, j1, ?_, ?_⟩
      · unfold cr at *; grind
      · grind
  · rintro ⟨k1, k2, k3, k4⟩
    have hc : (ax - bx) * (cy - by') = (ay - by') * (cx - bx) := by unfold cr at k3; grind
    obtain ⟨s1, s2⟩ := same_dir hc k4
    rcases dir_within hc k4 with ⟨w1, w2⟩ | ⟨w1, w2⟩
    · left
      exact ⟨k2, on_of_ov k3 s1 s2 w1 w2⟩
    · right
      refine ⟨k1, ?_⟩
      have k3' : cr bx by' cx cy ax ay = 0 := by unfold cr at *; grind
      have := on_of_ov k3' (by rw [Int.mul_comm]; exact s1) (by rw [Int.mul_comm]; exact s2) w1 w2
      rw [onF_iff, btw_iff] at this ⊢
      refine ⟨⟨by omega, by omega⟩, ?_⟩
      have := this.2
      unfold cr at *; grind
theorem fo_flip (ax ay bx by' cx cy : Int) : foF cx cy bx by' ax ay = foF ax ay bx by' cx cy := by
  have e : ∀ ax ay bx by' px py, onG bx by' ax ay px py = onG ax ay bx by' px py := by
    intro ax ay bx by' px py
    have h : onF bx by' ax ay px py = onF ax ay bx by' px py := by
      rw [Bool.eq_iff_iff, onF_iff, onF_iff, btw_iff, btw_iff]
      unfold cr
      constructor
      · rintro ⟨⟨h1, h2⟩, h3⟩; exact ⟨⟨by omega, by omega⟩, by grind⟩
      · rintro ⟨⟨h1, h2⟩, h3⟩; exact ⟨⟨by omega, by omega⟩, by grind⟩
    unfold onG
    rw [h]
    cases nearB ax ay <;> cases nearB bx by' <;> cases nearB px py <;> rfl
  unfold foF
  rw [e bx by' cx cy ax ay, e ax ay bx by' cx cy, Bool.or_comm]
def nx1 (n i : Nat) : Nat := if i + 1 = n then 0 else i + 1
def clF (n : Nat) (X Y : Nat → Int) (i j : Nat) : Bool :=
  if j = i + 1 then foF (X i) (Y i) (X j) (Y j) (X (nx1 n j)) (Y (nx1 n j))
  else if i = 0 ∧ j + 1 = n then foF (X j) (Y j) (X 0) (Y 0) (X 1) (Y 1)
  else meG (X i) (Y i) (X (i + 1)) (Y (i + 1)) (X j) (Y j) (X (nx1 n j)) (Y (nx1 n j))
def bdF (n : Nat) (X Y : Nat → Int) (i j : Nat) : Bool := (decide (X i = X j) && decide (Y i = Y j)) || clF n X Y i j
def rowF (n : Nat) (X Y : Nat → Int) (i : Nat) : Bool := (List.range n).any fun j => decide (i < j) && bdF n X Y i j
def ringC (n : Nat) (X Y : Nat → Int) : Nat × Nat :=
  if n < 3 ∨ 64 < n then (3, n)
  else match (List.range n).find? (fun i => !nearB (X i) (Y i)) with
    | some i => (2, i)
    | none => match (List.range n).find? (rowF n X Y) with
      | some i => (4, i)
      | none => (0, 0)
theorem find_some {p : Nat → Bool} {n i : Nat} (hi : i < n) (h1 : p i = true) (h2 : ∀ k, k < i → p k = false) : (List.range n).find? p = some i := by
  rw [List.find?_range_eq_some]
  exact ⟨h1, List.mem_range.2 hi, fun k hk => by rw [h2 k hk]; rfl⟩
theorem find_none {p : Nat → Bool} {n : Nat} (h : ∀ k, k < n → p k = false) : (List.range n).find? p = none := by
  rw [List.find?_range_eq_none]
  intro k hk
  rw [h k hk]; rfl
theorem rowF_iff {n : Nat} {X Y : Nat → Int} {i : Nat} : rowF n X Y i = true ↔ ∃ j, i < j ∧ j < n ∧ bdF n X Y i j = true := by
  unfold rowF
  rw [List.any_eq_true]
  constructor
  · rintro ⟨j, h1, h2⟩
    rw [Bool.and_eq_true, decide_eq_true_eq] at h2
    exact ⟨j, h2.1, List.mem_range.1 h1, h2.2⟩
  · rintro ⟨j, h1, h2, h3⟩
    exact ⟨j, List.mem_range.2 h2, by rw [h3, decide_eq_true h1]; rfl⟩
theorem rowF_no {n : Nat} {X Y : Nat → Int} {i : Nat} (h : ∀ j, i < j → j < n → bdF n X Y i j = false) : rowF n X Y i = false := by
  rw [← Bool.not_eq_true, rowF_iff]
  rintro ⟨j, h1, h2, h3⟩
  rw [h j h1 h2] at h3
  cases h3
theorem ringC_3 {n : Nat} {X Y : Nat → Int} (h : n < 3 ∨ 64 < n) : ringC n X Y = (3, n) := by unfold ringC; rw [if_pos h]
theorem ringC_2 {n : Nat} {X Y : Nat → Int} (h : ¬ (n < 3 ∨ 64 < n)) {i : Nat} (hi : i < n) (h1 : nearB (X i) (Y i) = false) (h2 : ∀ k, k < i → nearB (X k) (Y k) = true) : ringC n X Y = (2, i) := by
  unfold ringC; rw [if_neg h, find_some hi (by rw [h1]; rfl) (fun k hk => by rw [h2 k hk]; rfl)]
theorem ringC_4 {n : Nat} {X Y : Nat → Int} (h : ¬ (n < 3 ∨ 64 < n)) (hn : ∀ k, k < n → nearB (X k) (Y k) = true) {i j : Nat} (hi : i < j) (hj : j < n) (h1 : bdF n X Y i j = true) (h2 : ∀ k, k < i → ∀ m, k < m → m < n → bdF n X Y k m = false) : ringC n X Y = (4, i) := by
  unfold ringC
  rw [if_neg h, find_none (fun k hk => by rw [hn k hk]; rfl)]
  show (match (List.range n).find? (rowF n X Y) with | some i => (4, i) | none => (0, 0)) = (4, i)
  rw [find_some (by omega) (rowF_iff.2 ⟨j, hi, hj, h1⟩) (fun k hk => rowF_no (h2 k hk))]
theorem ringC_0 {n : Nat} {X Y : Nat → Int} (h : ¬ (n < 3 ∨ 64 < n)) (hn : ∀ k, k < n → nearB (X k) (Y k) = true) (h2 : ∀ k, k < n → ∀ m, k < m → m < n → bdF n X Y k m = false) : ringC n X Y = (0, 0) := by
  unfold ringC
  rw [if_neg h, find_none (fun k hk => by rw [hn k hk]; rfl)]
  show (match (List.range n).find? (rowF n X Y) with | some i => (4, i) | none => (0, 0)) = (0, 0)
  rw [find_none (fun k hk => rowF_no (h2 k hk))]
theorem ringC_ok {n : Nat} {X Y : Nat → Int} (h : (ringC n X Y).1 = 0) : ¬ (n < 3 ∨ 64 < n) ∧ (∀ k, k < n → nearB (X k) (Y k) = true) ∧ (∀ k m, k < m → m < n → bdF n X Y k m = false) ∧ ringC n X Y = (0, 0) := by
  unfold ringC at h
  by_cases h0 : n < 3 ∨ 64 < n
  · rw [if_pos h0] at h; cases h
  rw [if_neg h0] at h
  have key : (∀ k, k < n → nearB (X k) (Y k) = true) ∧ (∀ k m, k < m → m < n → bdF n X Y k m = false) := by
    cases e1 : (List.range n).find? (fun i => !nearB (X i) (Y i)) with
    | some i => rw [e1] at h; cases h
    | none =>
      rw [e1] at h
      replace h : (match (List.range n).find? (rowF n X Y) with | some i => (4, i) | none => (0, 0)).1 = 0 := h
      cases e2 : (List.range n).find? (rowF n X Y) with
      | some i => rw [e2] at h; cases h
      | none =>
        rw [List.find?_range_eq_none] at e1 e2
        refine ⟨fun k hk => ?_, fun k m hkm hm => ?_⟩
        · have := e1 k hk; simpa using this
        · have h3 := e2 k (by omega)
          rw [← Bool.not_eq_true]
          intro h4
          rw [rowF_iff.2 ⟨m, hkm, hm, h4⟩] at h3
          cases h3
  exact ⟨h0, key.1, key.2, ringC_0 h0 key.1 (fun k hk m => key.2 k m)⟩
def ovR (ax ay bx by' px py : Int) : Bool :=
  if by' ≤ py ∧ py < ay then decide (0 < cr bx by' ax ay px py)
  else if ay ≤ py ∧ py < by' then decide (0 < cr ax ay bx by' px py) else false
def onN (n : Nat) (X Y : Nat → Int) (px py : Int) : Nat → Bool
  | 0 => false
  | k + 1 => onN n X Y px py k || onG (X k) (Y k) (X (nx1 n k)) (Y (nx1 n k)) px py
def odN (n : Nat) (X Y : Nat → Int) (px py : Int) : Nat → Bool
  | 0 => false
  | k + 1 => odN n X Y px py k != ovR (X k) (Y k) (X (nx1 n k)) (Y (nx1 n k)) px py
def hasN (n : Nat) (X Y : Nat → Int) (px py : Int) : Bool := onN n X Y px py n || odN n X Y px py n
/-! the same, moved -/
/-! a box's corners as a ring, and its halves -/
end Go.Proofs.YtpomllpplpalkaaGreatDoor.Rg
