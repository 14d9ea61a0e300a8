/- what was laid is read as it was; a beginning of it is none -/
import Derived.Test.YtkldgfpkjaokaaaJa
import Derived.Test.YtkldgfpkjaokaaaEk
namespace Go.Proofs.Ytkldgfpkjaokaaa
set_option linter.unusedVariables false
set_option linter.unusedSimpArgs false
open Go.ChangeShapes Go.WideShapes Go.ChangeAt Go.RowKit

/-! ### what is said of points is said of these alone -/
theorem find_congr {α : Type} {p q : α → Bool} : ∀ (l : List α), (∀ x ∈ l, p x = q x) → l.find? p = l.find? q
  | [], _ => rfl
  | x :: l, h => by
    rw [List.find?_cons, List.find?_cons, h x (by simp), find_congr l (fun y hy => h y (by simp [hy]))]
theorem any_congr {α : Type} {p q : α → Bool} : ∀ (l : List α), (∀ x ∈ l, p x = q x) → l.any p = l.any q
  | [], _ => rfl
  | x :: l, h => by
    rw [List.any_cons, List.any_cons, h x (by simp), any_congr l (fun y hy => h y (by simp [hy]))]
theorem ringC_congr {n : Nat} {X Y P Q : Nat → Int} (h : ∀ k, k < n → X k = P k ∧ Y k = Q k) : Rg.ringC n X Y = Rg.ringC n P Q := by
  unfold Rg.ringC
  by_cases c : n < 3 ∨ 64 < n
  · rw [if_pos c, if_pos c]
  · rw [if_neg c, if_neg c]
    have e1 : (List.range n).find? (fun i => !nearB (X i) (Y i)) = (List.range n).find? (fun i => !nearB (P i) (Q i)) := find_congr _ fun i hi => by
      rw [(h i (List.mem_range.1 hi)).1, (h i (List.mem_range.1 hi)).2]
    have e2 : (List.range n).find? (Rg.rowF n X Y) = (List.range n).find? (Rg.rowF n P Q) := find_congr _ fun i hi => by
      unfold Rg.rowF
      refine any_congr _ fun j hj => ?_
      by_cases q : i < j
      · unfold Rg.bdF
        rw [(h i (List.mem_range.1 hi)).1, (h i (List.mem_range.1 hi)).2, (h j (List.mem_range.1 hj)).1, (h j (List.mem_range.1 hj)).2, Rg.clF_congr h q (List.mem_range.1 hj)]
      · rw [decide_eq_false q, Bool.false_and, Bool.false_and]
    rw [e1, e2]
theorem objC_congr (k : Int) {n : Nat} {X Y P Q : Nat → Int} (h : ∀ k, k < n → X k = P k ∧ Y k = Q k) : objC k n X Y = objC k n P Q := by
  unfold objC
  rw [ringC_congr h]
  by_cases c2 : n = 2
  · subst c2
    rw [(h 0 (by omega)).1, (h 0 (by omega)).2, (h 1 (by omega)).1, (h 1 (by omega)).2]
  · rw [if_neg c2, if_neg c2]
    by_cases c1 : n = 1
    · subst c1
      rw [(h 0 (by omega)).1, (h 0 (by omega)).2]
    · rw [if_neg c1, if_neg c1, if_neg c1, if_neg c1]

/-! ### read as it was laid -/
theorem rd_at {A M : List UInt8} {v a : Nat} (hv : Wd v) (ha : a = A.length) : rd (A ++ (Ec.vr v ++ M)) a = (v, (Ec.vr v).length) := by
  subst ha
  unfold rd
  rw [List.drop_left, uL_vr v hv]
theorem vr_ne {v : Nat} (h : Wd v) : (Ec.vr v).length ≠ 0 := by
  have := (Ec.vr_len10 (v := v) h).1
  omega
theorem ptsB_split (X Y : Nat → Int) : ∀ n i, i < n → ∃ T, ptsB X Y n = ptsB X Y i ++ (Ec.vr (zz (X i)) ++ (Ec.vr (zz (Y i)) ++ T))
  | 0, i, h => by omega
  | n + 1, i, h => by
    by_cases e : i = n
    · subst e
      exact ⟨[], by simp only [ptsB, List.append_assoc, List.append_nil]⟩
    · obtain ⟨T, hT⟩ := ptsB_split X Y n i (by omega)
      exact ⟨T ++ (Ec.vr (zz (X n)) ++ Ec.vr (zz (Y n))), by simp only [ptsB, hT, List.append_assoc]⟩
/-- What an object's bytes, whatever stands behind, are read as. -/
structure ObjAs (L : List UInt8) (k : Int) (n : Nat) (X Y : Nat → Int) (len : Nat) : Prop where
  bad : uoBad L = false
  kind : (uoK L : Int) = k
  many : uoM L = n
  xs : ∀ i, i < n → uoX L i = X i ∧ uoY L i = Y i
  len : uoE L = len
theorem obj_as {k : Int} {n : Nat} {X Y : Nat → Int} (h : objC k n X Y = 0) (M : List UInt8) : ObjAs (objB k n X Y ++ M) k n X Y (objB k n X Y).length := by
  obtain ⟨h1, h2, h3, h4, h5⟩ := objC_near h
  obtain ⟨m, rfl⟩ : ∃ m : Nat, k = m := ⟨k.toNat, by omega⟩
  obtain ⟨L, eL⟩ : ∃ L, L = objB m n X Y ++ M := ⟨_, rfl⟩
  rw [← eL]
  have wk : Wd m := by unfold Wd; omega
  have wn : Wd n := by unfold Wd; omega
  have e0 : L = [] ++ (Ec.vr m ++ (Ec.vr n ++ (ptsB X Y n ++ M))) := by rw [eL]; unfold objB; simp only [Int.toNat_natCast, List.append_assoc, List.nil_append]
  have e1 : L = Ec.vr m ++ (Ec.vr n ++ (ptsB X Y n ++ M)) := e0
  have r0 : rd L 0 = (m, (Ec.vr m).length) := by rw [e0]; exact rd_at wk rfl
  have r1 : rd L (Ec.vr m).length = (n, (Ec.vr n).length) := by rw [e1]; exact rd_at wn rfl
  have s1 : uoS1 L = false := by
    have : uoS1 L = (false || decide ((rd L 0).2 = 0) || decide (4 < (rd L 0).1)) := rfl
    rw [this, r0, decide_eq_false (vr_ne wk), decide_eq_false (by show ¬ 4 < m; omega)]; rfl
  have eB : uoB L = (Ec.vr m).length := by
    have : uoB L = 0 + (rd L 0).2 := rfl
    rw [this, r0, Nat.zero_add]
  have eK : uoK L = m := by
    have : uoK L = if uoS1 L then 0 else (rd L 0).1 := rfl
    rw [this, s1, r0]; rfl
  have s2 : uoS2 L = false := by
    have : uoS2 L = (uoS1 L || decide ((rd L (uoB L)).2 = 0) || decide (64 < (rd L (uoB L)).1)) := rfl
    rw [this, s1, eB, r1, decide_eq_false (vr_ne wn), decide_eq_false (by show ¬ 64 < n; omega)]; rfl
  have eM : uoM L = n := by
    have : uoM L = if uoS2 L then 0 else (rd L (uoB L)).1 := rfl
    rw [this, s2, eB, r1]; rfl
  have eA : uoA L = (Ec.vr m).length + (Ec.vr n).length := by
    have : uoA L = uoB L + (rd L (uoB L)).2 := rfl
    rw [this, eB, r1]
  have rx : ∀ i, i < n → ∀ a, a = (Ec.vr m).length + (Ec.vr n).length + (ptsB X Y i).length → rd L a = (zz (X i), (Ec.vr (zz (X i))).length) := by
    intro i hi a ha
    obtain ⟨T, hT⟩ := ptsB_split X Y n i hi
    have : L = (Ec.vr m ++ Ec.vr n ++ ptsB X Y i) ++ (Ec.vr (zz (X i)) ++ ((Ec.vr (zz (Y i)) ++ T) ++ M)) := by rw [e1, hT]; simp only [List.append_assoc]
    rw [this]
    exact rd_at (iw_wd (near_iw (h5 i hi)).1) (by rw [ha]; simp only [List.length_append])
  have ry : ∀ i, i < n → ∀ a, a = (Ec.vr m).length + (Ec.vr n).length + (ptsB X Y i).length + (Ec.vr (zz (X i))).length → rd L a = (zz (Y i), (Ec.vr (zz (Y i))).length) := by
    intro i hi a ha
    obtain ⟨T, hT⟩ := ptsB_split X Y n i hi
    have : L = (Ec.vr m ++ Ec.vr n ++ ptsB X Y i ++ Ec.vr (zz (X i))) ++ (Ec.vr (zz (Y i)) ++ (T ++ M)) := by rw [e1, hT]; simp only [List.append_assoc]
    rw [this]
    exact rd_at (iw_wd (near_iw (h5 i hi)).2) (by rw [ha]; simp only [List.length_append])
  have hA : ∀ i, i ≤ n → upA L (uoA L) i = (Ec.vr m).length + (Ec.vr n).length + (ptsB X Y i).length := by
    intro i
    induction i with
    | zero => intro _; rw [← eA]; rfl
    | succ i ih =>
      intro hi
      have q := ih (by omega)
      have a1 := rx i (by omega) _ q
      have a2 := ry i (by omega) (upA L (uoA L) i + (rd L (upA L (uoA L) i)).2) (by rw [a1, q])
      show upA L (uoA L) i + (rd L (upA L (uoA L) i)).2 + (rd L (upA L (uoA L) i + (rd L (upA L (uoA L) i)).2)).2 = _
      rw [a2, a1, q]
      simp only [ptsB, List.length_append]
      omega
  have hX : ∀ i, i < n → uoX L i = X i := by
    intro i hi
    show si (rd L (upA L (uoA L) i)).1 = X i
    rw [rx i hi _ (hA i (by omega))]
    exact si_zz (near_iw (h5 i hi)).1
  have hY : ∀ i, i < n → uoY L i = Y i := by
    intro i hi
    show si (rd L (upA L (uoA L) i + (rd L (upA L (uoA L) i)).2)).1 = Y i
    rw [ry i hi _ (by rw [rx i hi _ (hA i (by omega)), hA i (by omega)])]
    exact si_zz (near_iw (h5 i hi)).2
  have hS : ∀ i, i ≤ n → upS L (uoA L) (uoS2 L) i = false := by
    intro i
    induction i with
    | zero => intro _; exact s2
    | succ i ih =>
      intro hi
      rw [upS_false]
      have a1 := rx i (by omega) _ (hA i (by omega))
      have a2 := ry i (by omega) (upA L (uoA L) i + (rd L (upA L (uoA L) i)).2) (by rw [a1, hA i (by omega)])
      exact ⟨ih (by omega), by rw [a1]; exact vr_ne (iw_wd (near_iw (h5 i (by omega))).1), by rw [a2]; exact vr_ne (iw_wd (near_iw (h5 i (by omega))).2)⟩
  refine ⟨?_, by rw [eK], eM, fun i hi => ⟨hX i hi, hY i hi⟩, ?_⟩
  · have : uoBad L = (upS L (uoA L) (uoS2 L) (uoM L) || decide (objC (uoK L) (uoM L) (uoX L) (uoY L) ≠ 0)) := rfl
    rw [this, eM, hS n (Nat.le_refl _), eK, objC_congr m (P := X) (Q := Y) fun i hi => ⟨hX i hi, hY i hi⟩, h]
    rfl
  · show upA L (uoA L) (uoM L) = _
    rw [eM, hA n (Nat.le_refl _)]
    unfold objB
    simp only [List.length_append, Int.toNat_natCast]

/-! ### what a beginning is read as, the whole is -/
theorem uv_stable {f g : Nat → Nat} {n m : Nat} (hn : n ≤ m) (hf : ∀ i, i < n → f i = g i) : ∀ k i acc, (Ec.uv f n k i acc).2 ≠ 0 → Ec.uv g m k i acc = Ec.uv f n k i acc := by
  intro k
  induction k with
  | zero => intro i acc h; exact absurd rfl h
  | succ k ih =>
    intro i acc h
    by_cases c : i < n
    · simp only [Ec.uv] at h ⊢
      rw [if_pos c] at h ⊢
      rw [if_pos (by omega), ← hf i c]
      by_cases c1 : (i = 9 ∧ 1 < f i) ∨ (0 < i ∧ f i = 0)
      · rw [if_pos c1] at h; exact absurd rfl h
      · rw [if_neg c1] at h
        rw [if_neg c1, if_neg c1]
        by_cases c2 : f i < 128
        · rw [if_pos c2, if_pos c2]
        · rw [if_neg c2] at h
          rw [if_neg c2, if_neg c2]
          exact ih _ _ h
    · simp only [Ec.uv] at h
      rw [if_neg c] at h; exact absurd rfl h
theorem uL_stable {L M : List UInt8} (h : (uL L).2 ≠ 0) : uL (L ++ M) = uL L := by
  unfold uL at h ⊢
  refine uv_stable (by simp) (fun i hi => ?_) _ _ _ h
  unfold rb
  rw [List.getD_eq_getElem?_getD, List.getD_eq_getElem?_getD, List.getElem?_append_left hi]
theorem rd_stable {L : List UInt8} (M : List UInt8) {a : Nat} (ha : a ≤ L.length) (h : (rd L a).2 ≠ 0) : rd (L ++ M) a = rd L a := by
  unfold rd at h ⊢
  rw [List.drop_append_of_le_length ha]
  exact uL_stable h
theorem obj_stable {L : List UInt8} (M : List UInt8) (h : uoBad L = false) : uoE (L ++ M) = uoE L ∧ uoK (L ++ M) = uoK L ∧ uoM (L ++ M) = uoM L ∧ (∀ i, i < uoM L → uoX (L ++ M) i = uoX L i ∧ uoY (L ++ M) i = uoY L i) := by
  have hb : uoBad L = (upS L (uoA L) (uoS2 L) (uoM L) || decide (objC (uoK L) (uoM L) (uoX L) (uoY L) ≠ 0)) := rfl
  rw [h] at hb
  have hS : upS L (uoA L) (uoS2 L) (uoM L) = false := by
    cases e : upS L (uoA L) (uoS2 L) (uoM L)
    · rfl
    · rw [e] at hb; cases hb
  have hS' : ∀ i, i ≤ uoM L → upS L (uoA L) (uoS2 L) i = false := fun i hi => by
    cases e : upS L (uoA L) (uoS2 L) i
    · rfl
    · rw [upS_mono e hi] at hS; cases hS
  have s2 : uoS2 L = false := hS' 0 (Nat.zero_le _)
  have s1 : uoS1 L = false := uo_s1 h
  have d1 : uoS1 L = (false || decide ((rd L 0).2 = 0) || decide (4 < (rd L 0).1)) := rfl
  have d2 : uoS2 L = (uoS1 L || decide ((rd L (uoB L)).2 = 0) || decide (64 < (rd L (uoB L)).1)) := rfl
  rw [s1] at d1
  rw [s2, s1] at d2
  have n1 : (rd L 0).2 ≠ 0 := fun e => by rw [decide_eq_true e] at d1; simp at d1
  have n2 : (rd L (uoB L)).2 ≠ 0 := fun e => by rw [decide_eq_true e] at d2; simp at d2
  have r1 : rd (L ++ M) 0 = rd L 0 := rd_stable M (Nat.zero_le _) n1
  have eB : uoB (L ++ M) = uoB L := by unfold uoB; rw [r1]
  have r2 : rd (L ++ M) (uoB L) = rd L (uoB L) := rd_stable M (uoB_le L) n2
  have t1 : uoS1 (L ++ M) = uoS1 L := by unfold uoS1 nmS; rw [r1]
  have t2 : uoS2 (L ++ M) = uoS2 L := by unfold uoS2 nmS; rw [eB, r2, t1]
  have eK : uoK (L ++ M) = uoK L := by unfold uoK nmV nmS; rw [r1]
  have eM : uoM (L ++ M) = uoM L := by unfold uoM nmV nmS; rw [eB, r2, t1]
  have eA : uoA (L ++ M) = uoA L := by unfold uoA; rw [eB, r2]
  have hA : ∀ i, i ≤ uoM L → upA (L ++ M) (uoA L) i = upA L (uoA L) i ∧ (i < uoM L → rd (L ++ M) (upA L (uoA L) i) = rd L (upA L (uoA L) i) ∧ rd (L ++ M) (upA L (uoA L) i + (rd L (upA L (uoA L) i)).2) = rd L (upA L (uoA L) i + (rd L (upA L (uoA L) i)).2)) := by
    intro i
    induction i with
    | zero =>
      intro _
      refine ⟨rfl, fun hi => ?_⟩
      have := upS_false.1 (hS' 1 hi)
      exact ⟨rd_stable M (uoA_le L) this.2.1, rd_stable M (rd_len (uoA_le L)) this.2.2⟩
    | succ i ih =>
      intro hi
      obtain ⟨q1, q2⟩ := ih (by omega)
      obtain ⟨q2, q3⟩ := q2 (by omega)
      refine ⟨?_, fun hi' => ?_⟩
      · simp only [upA]
        rw [q1, q2, q3]
      · have := upS_false.1 (hS' (i + 2) hi')
        exact ⟨rd_stable M (upA_len (uoA_le L) _) this.2.1, rd_stable M (rd_len (upA_len (uoA_le L) _)) this.2.2⟩
  refine ⟨?_, eK, eM, fun i hi => ?_⟩
  · unfold uoE
    rw [eA, eM]
    exact (hA _ (Nat.le_refl _)).1
  · obtain ⟨q1, q2⟩ := hA i (by omega)
    obtain ⟨q2, q3⟩ := q2 hi
    unfold uoX uoY upX upY
    rw [eA, q1, q2, q3]
    exact ⟨rfl, rfl⟩
/-- An object's bytes cut short are none's. -/
theorem obj_cut {k : Int} {n c : Nat} {X Y : Nat → Int} (h : objC k n X Y = 0) (hc : c < (objB k n X Y).length) : uoBad ((objB k n X Y).take c) = true := by
  cases e : uoBad ((objB k n X Y).take c)
  · have s := (obj_stable ((objB k n X Y).drop c) e).1
    rw [List.take_append_drop] at s
    have a := (obj_as h []).len
    rw [List.append_nil, s] at a
    have b := uoE_le ((objB k n X Y).take c)
    rw [List.length_take] at b
    omega
  · rfl
/-- What a change's bytes, whatever stands behind, are read as. -/
structure ChgAs (L : List UInt8) (kd id k : Int) (n : Nat) (X Y : Nat → Int) (len : Nat) : Prop where
  bad : ucBad L = false
  what : (ucK1 L : Int) = kd
  item : (ucI L : Int) = id
  kind : (ucK L : Int) = k
  many : ucM L = n
  xs : ∀ i, i < n → uoX (ucO L) i = X i ∧ uoY (ucO L) i = Y i
  len : ucE L = len
theorem chg_as {kd id k : Int} {n : Nat} {X Y : Nat → Int} (h : chgC kd id k n X Y = 0) (M : List UInt8) : ChgAs (chgB kd id k n X Y ++ M) kd id k n X Y (chgB kd id k n X Y).length := by
  obtain ⟨g1, g2, g3⟩ := chgC_ok h
  obtain ⟨j, rfl⟩ : ∃ j : Nat, kd = j := ⟨kd.toNat, by omega⟩
  obtain ⟨i, rfl⟩ : ∃ i : Nat, id = i := ⟨id.toNat, by omega⟩
  obtain ⟨R, eR⟩ : ∃ R, R = (if (j : Int) = 1 then objB k n X Y else []) := ⟨_, rfl⟩
  obtain ⟨L, eL⟩ : ∃ L, L = chgB j i k n X Y ++ M := ⟨_, rfl⟩
  have hlen : (chgB j i k n X Y).length = (Ec.vr j).length + (Ec.vr i).length + R.length := by
    unfold chgB; rw [← eR]; simp only [List.length_append, Int.toNat_natCast]
  rw [← eL, hlen]
  have hj : j = 1 ∨ j = 2 := by rcases g3 with ⟨a, _⟩ | ⟨a, _⟩ <;> omega
  have wj : Wd j := by unfold Wd; omega
  have wi : Wd i := by unfold Wd; omega
  have e0 : L = [] ++ (Ec.vr j ++ (Ec.vr i ++ (R ++ M))) := by rw [eL]; unfold chgB; rw [← eR]; simp only [Int.toNat_natCast, List.append_assoc, List.nil_append]
  have e1 : L = Ec.vr j ++ (Ec.vr i ++ (R ++ M)) := e0
  have r0 : rd L 0 = (j, (Ec.vr j).length) := by rw [e0]; exact rd_at wj rfl
  have r1 : rd L (Ec.vr j).length = (i, (Ec.vr i).length) := by rw [e1]; exact rd_at wi rfl
  have s1 : ucS1 L = false := by
    have : ucS1 L = (false || decide ((rd L 0).2 = 0) || decide (2 < (rd L 0).1)) := rfl
    rw [this, r0, decide_eq_false (vr_ne wj), decide_eq_false (by show ¬ 2 < j; omega)]; rfl
  have eB : ucB L = (Ec.vr j).length := by
    have : ucB L = 0 + (rd L 0).2 := rfl
    rw [this, r0, Nat.zero_add]
  have eK : ucK1 L = j := by
    have : ucK1 L = if ucS1 L then 0 else (rd L 0).1 := rfl
    rw [this, s1, r0]; rfl
  have s2 : ucS2 L = false := by
    have : ucS2 L = (ucS1 L || decide ((rd L (ucB L)).2 = 0) || decide (1099511627776 < (rd L (ucB L)).1)) := rfl
    rw [this, s1, eB, r1, decide_eq_false (vr_ne wi), decide_eq_false (by show ¬ 1099511627776 < i; omega)]; rfl
  have eI : ucI L = i := by
    have : ucI L = if ucS2 L then 0 else (rd L (ucB L)).1 := rfl
    rw [this, s2, eB, r1]; rfl
  have eA : ucA L = (Ec.vr j).length + (Ec.vr i).length := by
    have : ucA L = ucB L + (rd L (ucB L)).2 := rfl
    rw [this, eB, r1]
  have eO : ucO L = R ++ M := by
    unfold ucO
    rw [eA, e1, ← List.append_assoc, ← List.length_append, List.drop_left]
  have hb : ucBad L = (ucS2 L || (decide (ucK1 L = 0) || (decide (ucK1 L = 1) && uoBad (ucO L)))) := rfl
  have hK : ucK L = if ucK1 L = 1 then uoK (ucO L) else 0 := rfl
  have hM : ucM L = if ucK1 L = 1 then uoM (ucO L) else 0 := rfl
  have hE : ucE L = if ucK1 L = 1 then ucA L + uoE (ucO L) else ucA L := rfl
  rcases g3 with ⟨a, hc⟩ | ⟨a, hk, hn⟩
  · obtain rfl : j = 1 := by omega
    rw [if_pos (by rfl)] at eR
    have ao := obj_as hc M
    rw [← eR, ← eO] at ao
    rw [eK, if_pos rfl] at hK hM hE
    refine ⟨?_, by rw [eK], by rw [eI], by rw [hK]; exact ao.kind, by rw [hM]; exact ao.many, ao.xs, by rw [hE, ao.len, eA]⟩
    rw [hb, s2, eK, ao.bad]; rfl
  · obtain rfl : j = 2 := by omega
    rw [if_neg (by omega)] at eR
    rw [eK, if_neg (by omega)] at hK hM hE
    refine ⟨?_, by rw [eK], by rw [eI], by rw [hK, hk]; rfl, by rw [hM, hn], fun i hi => by omega, by rw [hE, eA, eR]; rfl⟩
    rw [hb, s2, eK]; rfl
theorem chg_stable {L : List UInt8} (M : List UInt8) (h : ucBad L = false) : ucE (L ++ M) = ucE L ∧ ucK1 (L ++ M) = ucK1 L ∧ ucI (L ++ M) = ucI L ∧ ucK (L ++ M) = ucK L ∧ ucM (L ++ M) = ucM L ∧ (∀ i, i < ucM L → uoX (ucO (L ++ M)) i = uoX (ucO L) i ∧ uoY (ucO (L ++ M)) i = uoY (ucO L) i) := by
  have hb : ucBad L = (ucS2 L || (decide (ucK1 L = 0) || (decide (ucK1 L = 1) && uoBad (ucO L)))) := rfl
  rw [h] at hb
  have s2 : ucS2 L = false := by
    cases e : ucS2 L
    · rfl
    · rw [e] at hb; cases hb
  rw [s2] at hb
  have s1 : ucS1 L = false := by
    have d2 : ucS2 L = (ucS1 L || decide ((rd L (ucB L)).2 = 0) || decide (1099511627776 < (rd L (ucB L)).1)) := rfl
    cases e : ucS1 L
    · rfl
    · rw [e, s2] at d2; simp at d2
  have d1 : ucS1 L = (false || decide ((rd L 0).2 = 0) || decide (2 < (rd L 0).1)) := rfl
  have d2 : ucS2 L = (ucS1 L || decide ((rd L (ucB L)).2 = 0) || decide (1099511627776 < (rd L (ucB L)).1)) := rfl
  rw [s1] at d1
  rw [s2, s1] at d2
  have n1 : (rd L 0).2 ≠ 0 := fun e => by rw [decide_eq_true e] at d1; simp at d1
  have n2 : (rd L (ucB L)).2 ≠ 0 := fun e => by rw [decide_eq_true e] at d2; simp at d2
  have r1 : rd (L ++ M) 0 = rd L 0 := rd_stable M (Nat.zero_le _) n1
  have eB : ucB (L ++ M) = ucB L := by unfold ucB; rw [r1]
  have r2 : rd (L ++ M) (ucB L) = rd L (ucB L) := rd_stable M (ucB_le L) n2
  have t1 : ucS1 (L ++ M) = ucS1 L := by unfold ucS1 nmS; rw [r1]
  have eK : ucK1 (L ++ M) = ucK1 L := by unfold ucK1 nmV nmS; rw [r1]
  have eI : ucI (L ++ M) = ucI L := by unfold ucI nmV nmS; rw [eB, r2, t1]
  have eA : ucA (L ++ M) = ucA L := by unfold ucA; rw [eB, r2]
  have eO : ucO (L ++ M) = ucO L ++ M := by unfold ucO; rw [eA, List.drop_append_of_le_length (ucA_le L)]
  have hM : ucM L = if ucK1 L = 1 then uoM (ucO L) else 0 := rfl
  by_cases c : ucK1 L = 1
  · have hu : uoBad (ucO L) = false := by
      cases e : uoBad (ucO L)
      · rfl
      · rw [c, e] at hb; simp at hb
    obtain ⟨q1, q2, q3, q4⟩ := obj_stable M hu
    refine ⟨?_, eK, eI, ?_, ?_, fun i hi => ?_⟩
    · unfold ucE; rw [eK, if_pos c, if_pos c, eA, eO, q1]
    · unfold ucK; rw [eK, if_pos c, if_pos c, eO, q2]
    · unfold ucM; rw [eK, if_pos c, if_pos c, eO, q3]
    · rw [hM, if_pos c] at hi
      rw [eO]; exact q4 i hi
  · refine ⟨?_, eK, eI, ?_, ?_, fun i hi => ?_⟩
    · unfold ucE; rw [eK, if_neg c, if_neg c, eA]
    · unfold ucK; rw [eK, if_neg c, if_neg c]
    · unfold ucM; rw [eK, if_neg c, if_neg c]
    · rw [hM, if_neg c] at hi; omega
end Go.Proofs.Ytkldgfpkjaokaaa
