/- slots: what was laid is read as it was -/
import Derived.Test.YtilijbplfobneaaDoorMf
namespace Go.Proofs.YtilijbplfobneaaDoor
set_option linter.unusedVariables false
set_option linter.unusedSimpArgs false
open Go.ChangeShapes Go.WideShapes Go.ChangeAt Go.RowKit Go.Maps

/-- The last slot is not free. -/
def Trim (S : List Sl) : Prop := 0 < S.length → (S.getD (S.length - 1) none).isSome = true
theorem trim_put {S : List Sl} {n : Nat} {L : List UInt8} (h : Trim S) (hn : n ≤ S.length) : Trim (putS S n (some L)) := fun h0 => by
  rw [putS_get hn, putS_len]
  by_cases e : n = S.length
  · rw [if_pos e, if_pos (by omega)]; rfl
  · rw [if_neg e]
    by_cases e2 : S.length - 1 = n
    · rw [if_pos e2]; rfl
    · rw [if_neg e2]; exact h (by omega)
theorem lastN_at {S : List Sl} : ∀ k, 0 < lastN S k → (S.getD (lastN S k - 1) none).isSome = true
  | 0, h => absurd h (by show ¬ 0 < 0; omega)
  | k + 1, h => by
    unfold lastN at h ⊢
    by_cases e : (S.getD k none).isSome = true
    · rw [if_pos e]; exact e
    · rw [if_neg e] at h ⊢; exact lastN_at k h
theorem trim_del {S : List Sl} {n : Nat} : Trim (delS S n) := fun h0 => by
  have hl := lastN_le (S.set n none) S.length
  have hlen : (delS S n).length = lastN (S.set n none) S.length := by unfold delS; rw [List.length_take, List.length_set]; omega
  rw [hlen] at h0 ⊢
  have h1 := lastN_at S.length h0
  unfold delS
  rw [getD_take, if_pos (by omega)]
  exact h1
/-- The bytes of a slot's entry. -/
def ent (S : List Sl) (n d : Nat) : UInt8 := match S.getD n none with
  | none => 0
  | some L => (pr (endS S (n + 1)) ++ pr (L.length + 1)).getD d 0
theorem ent_none {S : List Sl} {n : Nat} (h : S.getD n none = none) (d : Nat) : ent S n d = 0 := by unfold ent; rw [h]
theorem ent_some {S : List Sl} {n : Nat} {L : List UInt8} (h : S.getD n none = some L) (d : Nat) : ent S n d = (pr (endS S (n + 1)) ++ pr (L.length + 1)).getD d 0 := by unfold ent; rw [h]
theorem lay0_at (kd id : Nat) (S : List Sl) (j : Nat) (h1 : 6 ≤ j) (h2 : j < 512) : (layB kd id S 0)[j]? = some 0 := by
  show (splice (splice (List.replicate 512 0) 0 _) 2 (wd id))[j]? = some 0
  have hl : (splice (List.replicate 512 (0 : UInt8)) 0 [UInt8.ofNat kd, UInt8.ofNat S.length]).length = 512 := by
    rw [length_splice _ _ _ (by rw [List.length_replicate]; show 0 + 2 ≤ 512; omega), List.length_replicate]
  rw [splice_out _ _ _ (by rw [hl, wd_len4]; omega) j (by rw [wd_len4]; omega), splice_out _ _ _ (by rw [List.length_replicate]; show 0 + 2 ≤ 512; omega) j (Or.inr (by show 0 + 2 ≤ j; omega)), List.getElem?_replicate, if_pos (by omega)]
theorem splice_in {α : Type} (X : List α) (off : Nat) (cs : List α) (h : off + cs.length ≤ X.length) (j : Nat) (hj : j < cs.length) : (splice X off cs)[off + j]? = cs[j]? := by
  rw [splice_get _ _ _ h, if_neg (by omega), if_pos (by omega), Nat.add_sub_cancel_left]
section
variable {kd id : Nat} {S : List Sl}
theorem layB_lens (hu : usS S ≤ 512) (h60 : S.length ≤ 60) {i : Nat} (hi : i < S.length) {L : List UInt8} (h : S.getD i none = some L) : (layB kd id S i).length = 512 ∧ (splice (layB kd id S i) (endS S (i + 1)) L).length = 512 ∧ (splice (splice (layB kd id S i) (endS S (i + 1)) L) (16 + 4 * i) (pr (endS S (i + 1)))).length = 512 := by
  obtain ⟨h1, h2, h3⟩ := endS_some hu hi h
  have il := layB_len kd id hu h60 i (by omega)
  have a1 : (splice (layB kd id S i) (endS S (i + 1)) L).length = 512 := by rw [length_splice _ _ _ (by rw [il]; omega), il]
  exact ⟨il, a1, by rw [length_splice _ _ _ (by rw [a1, pr_len]; omega), a1]⟩
/-- What the next slot leaves alone. -/
theorem lay_step (hu : usS S ≤ 512) (h60 : S.length ≤ 60) {i : Nat} (hi : i < S.length) (j : Nat) (hj : j < 16 + 4 * i ∨ (20 + 4 * i ≤ j ∧ (j < 16 + 4 * S.length ∨ endS S i ≤ j))) : (layB kd id S (i + 1))[j]? = (layB kd id S i)[j]? := by
  cases h : S.getD i none with
  | none => rw [layB_none h]
  | some L =>
    obtain ⟨h1, h2, h3⟩ := endS_some hu hi h
    obtain ⟨l1, l2, l3⟩ := layB_lens (kd := kd) (id := id) hu h60 hi h
    rw [layB_some h, splice_out _ _ _ (by rw [l3, pr_len]; omega) j (by rw [pr_len]; omega), splice_out _ _ _ (by rw [l2, pr_len]; omega) j (by rw [pr_len]; omega), splice_out _ _ _ (by rw [l1]; omega) j (by omega)]
theorem lay_head (hu : usS S ≤ 512) (h60 : S.length ≤ 60) (j : Nat) (hj : j < 16) : ∀ i, i ≤ S.length → (layB kd id S i)[j]? = (layB kd id S 0)[j]?
  | 0, _ => rfl
  | i + 1, hi => by rw [lay_step hu h60 (by omega) j (Or.inl (by omega)), lay_head hu h60 j hj i (by omega)]
theorem lay_ent (hu : usS S ≤ 512) (h60 : S.length ≤ 60) (n d : Nat) (hn : n < S.length) (hd : d < 4) : ∀ i, i ≤ S.length → (layB kd id S i)[16 + 4 * n + d]? = some (if n < i then ent S n d else 0)
  | 0, _ => by rw [lay0_at kd id S _ (by omega) (by omega), if_neg (by omega)]
  | i + 1, hi => by
    have ih := lay_ent hu h60 n d hn hd i (by omega)
    by_cases e : n = i
    · subst e
      rw [if_pos (by omega)]
      rw [if_neg (by omega)] at ih
      cases h : S.getD n none with
      | none => rw [layB_none h, ent_none h]; exact ih
      | some L =>
        obtain ⟨h1, h2, h3⟩ := endS_some hu hn h
        obtain ⟨l1, l2, l3⟩ := layB_lens (kd := kd) (id := id) hu h60 hn h
        rw [layB_some h, ent_some h]
        by_cases hd2 : d < 2
        · rw [splice_out _ _ _ (by rw [l3, pr_len]; omega) _ (Or.inl (by omega)), splice_in _ _ _ (by rw [l2, pr_len]; omega) d (by rw [pr_len]; exact hd2), List.getD_eq_getElem?_getD, List.getElem?_append_left (by rw [pr_len]; exact hd2), List.getElem?_eq_getElem (by rw [pr_len]; exact hd2)]
          rfl
        · rw [show 16 + 4 * n + d = 18 + 4 * n + (d - 2) by omega, splice_in _ _ _ (by rw [l3, pr_len]; omega) (d - 2) (by rw [pr_len]; omega), List.getD_eq_getElem?_getD, List.getElem?_append_right (by rw [pr_len]; omega), pr_len, List.getElem?_eq_getElem (by rw [pr_len]; omega)]
          rfl
    · rw [lay_step hu h60 (by omega) _ (by by_cases h : n < i; exact Or.inl (by omega); exact Or.inr ⟨by omega, Or.inl (by omega)⟩), ih]
      by_cases h : n < i
      · rw [if_pos h, if_pos (by omega)]
      · rw [if_neg h, if_neg (by omega)]
theorem endS_mono (hu : usS S ≤ 512) {i n : Nat} (hin : i ≤ n) : endS S n ≤ endS S i := by
  have := szT_mono S hin
  unfold endS
  omega
theorem lay_dat (hu : usS S ≤ 512) (h60 : S.length ≤ 60) (n : Nat) (L : List UInt8) (h : S.getD n none = some L) (j : Nat) (hj : j < L.length) : ∀ i, i ≤ S.length → n < i → (layB kd id S i)[endS S (n + 1) + j]? = L[j]?
  | 0, _, hn => absurd hn (by omega)
  | i + 1, hi, hn => by
    obtain ⟨h1, h2, h3⟩ := endS_some hu (show n < S.length by omega) h
    by_cases e : n = i
    · subst e
      obtain ⟨l1, l2, l3⟩ := layB_lens (kd := kd) (id := id) hu h60 (show n < S.length by omega) h
      rw [layB_some h, splice_out _ _ _ (by rw [l3, pr_len]; omega) _ (Or.inr (by rw [pr_len]; omega)), splice_out _ _ _ (by rw [l2, pr_len]; omega) _ (Or.inr (by rw [pr_len]; omega)), splice_in _ _ _ (by rw [l1]; omega) j hj]
    · have := endS_mono hu (show n + 1 ≤ i by omega)
      rw [lay_step hu h60 (by omega) _ (Or.inr ⟨by omega, Or.inr (by omega)⟩)]
      exact lay_dat hu h60 n L h j hj i (by omega) (by omega)
end
theorem seal_at {M : List UInt8} (h : M.length = 512) (j : Nat) (hj : j < 12 ∨ 16 ≤ j) : (sealB M)[j]? = M[j]? := by
  unfold sealB
  exact splice_out _ _ _ (by rw [h, wd_len4]; omega) j (by rw [wd_len4]; omega)
theorem rb_some {L : List UInt8} {k : Nat} {x : UInt8} (h : L[k]? = some x) : rb L k = x.toNat := by
  unfold rb
  rw [List.getD_eq_getElem?_getD, h]
  rfl
theorem pr_val {v : Nat} (hv : v < 65536) : (UInt8.ofNat (v % 256)).toNat + 256 * (UInt8.ofNat (v / 256 % 256)).toNat = v := by
  rw [UInt8.toNat_ofNat', UInt8.toNat_ofNat']
  omega
section
variable {kd id : Nat} {S : List Sl}
theorem pg_at (hu : usS S ≤ 512) (h60 : S.length ≤ 60) (j : Nat) (hj : j < 12 ∨ 16 ≤ j) : (pgB kd id S)[j]? = (layB kd id S S.length)[j]? := seal_at (layB_len kd id hu h60 _ (Nat.le_refl _)) j hj
theorem pg_len (hu : usS S ≤ 512) (h60 : S.length ≤ 60) : (pgB kd id S).length = 512 := sealB_len (layB_len kd id hu h60 _ (Nat.le_refl _))
theorem lay0_two (kd id : Nat) (S : List Sl) : (layB kd id S 0)[0]? = some (UInt8.ofNat kd) ∧ (layB kd id S 0)[1]? = some (UInt8.ofNat S.length) ∧ ∀ d, d < 4 → (layB kd id S 0)[2 + d]? = (wd id)[d]? := by
  have hr : (List.replicate 512 (0 : UInt8)).length = 512 := List.length_replicate
  have hl : (splice (List.replicate 512 (0 : UInt8)) 0 [UInt8.ofNat kd, UInt8.ofNat S.length]).length = 512 := by
    rw [length_splice _ _ _ (by rw [hr]; show 0 + 2 ≤ 512; omega), hr]
  refine ⟨?_, ?_, fun d hd => ?_⟩
  · show (splice (splice (List.replicate 512 0) 0 _) 2 (wd id))[0]? = _
    rw [splice_out _ _ _ (by rw [hl, wd_len4]; omega) 0 (Or.inl (by omega))]
    exact splice_in _ 0 _ (by rw [hr]; show 0 + 2 ≤ 512; omega) 0 (by show 0 < 2; omega)
  · show (splice (splice (List.replicate 512 0) 0 _) 2 (wd id))[1]? = _
    rw [splice_out _ _ _ (by rw [hl, wd_len4]; omega) 1 (Or.inl (by omega))]
    exact splice_in _ 0 _ (by rw [hr]; show 0 + 2 ≤ 512; omega) 1 (by show 1 < 2; omega)
  · show (splice (splice (List.replicate 512 0) 0 _) 2 (wd id))[2 + d]? = _
    exact splice_in _ 2 _ (by rw [hl, wd_len4]; omega) d (by rw [wd_len4]; exact hd)
theorem rt_head (hk : kd ≤ 255) (hid : id < 4294967296) (hu : usS S ≤ 512) (h60 : S.length ≤ 60) : rb (pgB kd id S) 0 = kd ∧ rb (pgB kd id S) 1 = S.length ∧ wv ((pgB kd id S).drop 2) = id := by
  obtain ⟨a, b, c⟩ := lay0_two kd id S
  refine ⟨?_, ?_, ?_⟩
  · rw [rb_some (x := UInt8.ofNat kd) (by rw [pg_at hu h60 0 (Or.inl (by omega)), lay_head hu h60 0 (by omega) _ (Nat.le_refl _)]; exact a), UInt8.toNat_ofNat']
    omega
  · rw [rb_some (x := UInt8.ofNat S.length) (by rw [pg_at hu h60 1 (Or.inl (by omega)), lay_head hu h60 1 (by omega) _ (Nat.le_refl _)]; exact b), UInt8.toNat_ofNat']
    omega
  · have e : ∀ d, d < 4 → rb ((pgB kd id S).drop 2) d = rb (wd id) d := fun d hd => by
      have h := c d hd
      unfold rb
      rw [List.getD_eq_getElem?_getD, List.getD_eq_getElem?_getD, List.getElem?_drop, pg_at hu h60 _ (Or.inl (by omega)), lay_head hu h60 _ (by omega) _ (Nat.le_refl _), h]
    have h := wv_wd id hid []
    rw [List.append_nil] at h
    unfold wv at h ⊢
    rw [e 0 (by omega), e 1 (by omega), e 2 (by omega), e 3 (by omega)]
    exact h
theorem rt_ent (hu : usS S ≤ 512) (h60 : S.length ≤ 60) (n : Nat) (hn : n < S.length) : (∀ L, S.getD n none = some L → L.length ≤ 400 → rFrom (pgB kd id S) n = endS S (n + 1) ∧ rRaw (pgB kd id S) n = L.length + 1) ∧ (S.getD n none = none → rFrom (pgB kd id S) n = 0 ∧ rRaw (pgB kd id S) n = 0) := by
  have e : ∀ d, d < 4 → rb (pgB kd id S) (16 + 4 * n + d) = (ent S n d).toNat := fun d hd => by
    have h := lay_ent (kd := kd) (id := id) hu h60 n d hn hd S.length (Nat.le_refl _)
    rw [if_pos hn] at h
    exact rb_some (by rw [pg_at hu h60 _ (Or.inr (by omega))]; exact h)
  have e0 := e 0 (by omega)
  have e1 := e 1 (by omega)
  have e2 := e 2 (by omega)
  have e3 := e 3 (by omega)
  rw [Nat.add_zero] at e0
  rw [show 16 + 4 * n + 2 = 18 + 4 * n by omega] at e2
  rw [show 16 + 4 * n + 3 = 18 + 4 * n + 1 by omega] at e3
  refine ⟨fun L hL hl => ?_, fun hN => ?_⟩
  · obtain ⟨h1, h2, h3⟩ := endS_some hu hn hL
    have h400 : L.length ≤ 400 := hl
    rw [ent_some hL] at e0 e1 e2 e3
    unfold rFrom rRaw pv
    rw [e0, e1, e2, e3]
    exact ⟨pr_val (by omega), pr_val (by omega)⟩
  · rw [ent_none hN] at e0 e1 e2 e3
    unfold rFrom rRaw pv
    rw [e0, e1, e2, e3]
    exact ⟨rfl, rfl⟩
theorem rt_sl (hu : usS S ≤ 512) (h60 : S.length ≤ 60) (hz : ∀ j, szO (S.getD j none) ≤ 400) (n : Nat) (hn : n < S.length) : rSl (pgB kd id S) n = S.getD n none ∧ rOk (pgB kd id S) n := by
  obtain ⟨h1, h2⟩ := rt_ent (kd := kd) (id := id) hu h60 n hn
  cases h : S.getD n none with
  | none =>
    obtain ⟨a, b⟩ := h2 h
    refine ⟨?_, ?_⟩
    · unfold rSl; rw [if_pos b]
    · unfold rOk; rw [a, b]; omega
  | some L =>
    have hl := hz n
    rw [h] at hl
    have hl' : L.length ≤ 400 := hl
    obtain ⟨a, b⟩ := h1 L h hl'
    obtain ⟨g1, g2, g3⟩ := endS_some hu hn h
    refine ⟨?_, ?_⟩
    · unfold rSl
      rw [if_neg (by omega), a, b, Nat.add_sub_cancel]
      congr 1
      apply List.ext_getElem?
      intro j
      rw [List.getElem?_take]
      by_cases hj : j < L.length
      · rw [if_pos hj, List.getElem?_drop, pg_at hu h60 _ (Or.inr (by omega)), lay_dat hu h60 n L h j hj _ (Nat.le_refl _) hn]
      · rw [if_neg hj, List.getElem?_eq_none (by omega)]
    · unfold rOk; rw [a, b]; omega
theorem rt_rdT (hu : usS S ≤ 512) (h60 : S.length ≤ 60) (hz : ∀ j, szO (S.getD j none) ≤ 400) : ∀ i, i ≤ S.length → rdT (pgB kd id S) i = S.take i
  | 0, _ => rfl
  | i + 1, hi => by
    show rdT (pgB kd id S) i ++ [rSl (pgB kd id S) i] = _
    rw [rt_rdT hu h60 hz i (by omega), (rt_sl hu h60 hz i (by omega)).1, List.take_succ_eq_append_getElem (by omega), getD_lt S (by omega)]
/-- A page that is laid is read as it was. -/
theorem rt (hk : kd ≤ 255) (hid : id < 4294967296) (hu : usS S ≤ 512) (h60 : S.length ≤ 60) (hz : ∀ j, szO (S.getD j none) ≤ 400) (ht : Trim S) : RdOk (pgB kd id S) ∧ rb (pgB kd id S) 0 = kd ∧ wv ((pgB kd id S).drop 2) = id ∧ rdT (pgB kd id S) (rb (pgB kd id S) 1) = S := by
  obtain ⟨h1, h2, h3⟩ := rt_head (S := S) hk hid hu h60
  have h4 : rdT (pgB kd id S) S.length = S := by rw [rt_rdT hu h60 hz _ (Nat.le_refl _), List.take_length]
  refine ⟨⟨pg_len hu h60, by rw [h2]; exact h60, fun n hn => (rt_sl hu h60 hz n (by rw [h2] at hn; exact hn)).2, fun h0 => ?_, ?_⟩, h1, h3, by rw [h2]; exact h4⟩
  · rw [h2] at h0 ⊢
    rw [h4]
    exact ht h0
  · rw [h2, h4]; exact hu
end
end Go.Proofs.YtilijbplfobneaaDoor
