/- As Od, but over a relation of one's own: the operations that come up alone may change what the others do not look at. -/
import Derived.Test.YtogflfepkddbhaaDoorOd
namespace Go.Proofs.YtogflfepkddbhaaDoor.Oe
set_option linter.unusedVariables false
set_option linter.unusedSimpArgs false
set_option linter.unusedSectionVars false
open Go.ChangeShapes Go.WideShapes Go.ChangeAt Go.RowKit
/-- What may become of memory while the region runs: whatever keeps what the early ones look at. -/
class Rl (R : World → World → Prop) : Prop where
  refl : ∀ w, R w w
  trans : ∀ {a b c : World}, R a b → R b c → R a c
  drew : ∀ w : World, R w { w with drawn := w.drawn + 1 }
variable {P : Program} {ops : Array Oper} {md : Region.Mode} {R : World → World → Prop} [Rl R]

/-- In world w the operation leaves v in its slot, and memory as it is. -/
def pAt (P : Program) (o : Oper) (a : Act) (w : World) (v : Value) : Prop := o.wp P a w (fun a' w' => a' = a.put o.dst v ∧ w' = w) (fun _ _ _ => False)
/-- In world w the operation leaves some v in its slot, and a greater world: of both so much is said. -/
def sAt (R : World → World → Prop) (P : Program) (o : Oper) (a : Act) (w : World) (S : Value → World → Prop) : Prop := o.wp P a w (fun a' w' => ∃ v, a' = a.put o.dst v ∧ R w w' ∧ S v w') (fun _ _ _ => False)

theorem pAt_put {o : Oper} {a : Act} {w : World} {v x : Value} {d : Option Tmp} (hs : ∀ cs b, o.op ≠ .select cs b) (hl : ∀ t, d = some t → t ∉ o.looksAt ops) (hne : ∀ t, d = some t → o.dst ≠ some t)
    (h : pAt P o a w v) : pAt P o (a.put d x) w v := by
  unfold pAt Oper.wp at *
  rw [execOp_put (ops := ops) o hs a d x hl]
  refine Hd.upon_map (fun u w' hu => ⟨?_, hu.2⟩) (fun dd w' hu => (Hd.no_defer hu.1).elim) h
  rw [Act.put_comm a x u hne, Act.put_comm a x v hne, hu.1]

/-- Operation number i comes up. -/
def opS (R : World → World → Prop) (P : Program) (ops : Array Oper) (i : Nat) (K : Act → World → Prop) (a : Act) (w : World) : Prop :=
  match ops[i]? with
  | none => K a w
  | some o => if Region.wanted o (yielded ops a.tmps) = true then o.wp P a w (fun a' w' => R w w' ∧ (∃ u, a' = a.put o.dst u) ∧ K a' w') (fun _ _ _ => False) else K (a.put o.dst undef) w

def anyS (R : World → World → Prop) (P : Program) (md : Region.Mode) (ops : Array Oper) (Q : Act → World → Prop) : Nat → Array Bool → Act → World → Prop
  | 0, listed, a, w => Region.ready md ops listed = [] ∧ Q a w
  | f + 1, listed, a, w => (Region.ready md ops listed = [] → Q a w) ∧ ∀ i ∈ Region.ready md ops listed, opS R P ops i (anyS R P md ops Q f (listed.setIfInBounds i true)) a w

theorem opS_mono {i : Nat} {a : Act} {w : World} {K K' : Act → World → Prop} (h : ∀ oi u w', ops[i]? = some oi → R w w' → K (a.put oi.dst u) w' → K' (a.put oi.dst u) w') (h0 : ops[i]? = none → K a w → K' a w) (hh : opS R P ops i K a w) : opS R P ops i K' a w := by
  unfold opS at *
  split
  · rename_i ho; simp only [ho] at hh; exact h0 ho hh
  · rename_i o ho
    simp only [ho] at hh
    split
    · rename_i hw
      rw [if_pos hw] at hh
      unfold Oper.wp at *
      refine Hd.upon_map (fun u w' hu => ⟨hu.1, hu.2.1, h o u w' ho hu.1 hu.2.2⟩) (fun d w' hu => ?_) hh
      obtain ⟨_, ⟨u, hu⟩, _⟩ := hu
      exact (Hd.no_defer hu).elim
    · rename_i hw
      rw [if_neg hw] at hh
      exact h o _ w ho (Rl.refl _) hh

theorem wpOp_of_opS {i : Nat} {a : Act} {w : World} {K K' : Act → World → Prop} {Q' : Exit → Act → World → Prop} (h : ∀ a w, K a w → K' a w) (hh : opS R P ops i K a w) : wpOp P ops Q' i K' a w := by
  unfold opS at hh
  unfold wpOp
  split
  · rename_i ho; simp only [ho] at hh; exact h _ _ hh
  · rename_i o ho
    simp only [ho] at hh
    split
    · rename_i hw
      rw [if_pos hw] at hh
      refine .inl ?_
      unfold Oper.wp at *
      refine Hd.upon_map (fun u w' hu => h _ _ hu.2.2) (fun d w' hu => ?_) hh
      obtain ⟨_, ⟨u, hu⟩, _⟩ := hu
      exact (Hd.no_defer hu).elim
    · rename_i hw
      rw [if_neg hw] at hh
      exact h _ _ hh

theorem wpAny_of_S {Q : Act → World → Prop} {Q' : Exit → Act → World → Prop} (hQ : ∀ a w, Q a w → Q' .normal a w) : ∀ (f : Nat) (listed : Array Bool) (a : Act) (w : World), anyS R P md ops Q f listed a w → wpAny P md ops Q' f listed a w
  | 0, _, _, _, h => ⟨h.1, hQ _ _ h.2⟩
  | f + 1, _, _, _, h => ⟨fun h0 => hQ _ _ (h.1 h0), fun i hi => wpOp_of_opS (fun a' w' => wpAny_of_S hQ f _ a' w') (h.2 i hi)⟩

/-- In this state, and in each greater world, the operation leaves v. -/
def YP (R : World → World → Prop) (P : Program) (ops : Array Oper) (o : Oper) (v : Value) (a : Act) (w : World) : Prop :=
  (Region.wanted o (yielded ops a.tmps) = true ∧ ∀ w', R w w' → pAt P o a w' v) ∨ (Region.wanted o (yielded ops a.tmps) = false ∧ v = undef)

theorem YP.gr {o : Oper} {v : Value} {a : Act} {w w' : World} (h : YP R P ops o v a w) (g : R w w') : YP R P ops o v a w' :=
  h.imp (fun h => ⟨h.1, fun x hx => h.2 x (Rl.trans g hx)⟩) id

theorem YP.opS {i : Nat} {o : Oper} {v : Value} {a : Act} {w : World} (hi : ops[i]? = some o) (hy : YP R P ops o v a w) {K : Act → World → Prop} (h : K (a.put o.dst v) w) : opS R P ops i K a w := by
  unfold Oe.opS
  simp only [hi]
  rcases hy with ⟨hw, hv⟩ | ⟨hw, rfl⟩
  · rw [if_pos hw]
    have hb := hv w (Rl.refl _)
    unfold pAt Oper.wp at hb
    unfold Oper.wp
    refine Hd.upon_map (fun u w' hu => ?_) (fun d w' hu => (Hd.no_defer hu.1).elim) hb
    obtain ⟨h1, rfl⟩ := hu
    exact ⟨Rl.refl _, ⟨u, rfl⟩, by rw [h1]; exact h⟩
  · rw [if_neg (by rw [hw]; decide)]
    exact h

theorem opS_put {j : Nat} {oi oj : Oper} {v : Value} (hj : ops[j]? = some oj) (hap : oi.apart ops oj = true)
    (hsi : ∀ cs b, oi.op ≠ .select cs b) (hsj : ∀ cs b, oj.op ≠ .select cs b) {K : Act → World → Prop} {a : Act} {w : World}
    (hy : YP R P ops oi v a w) (h : opS R P ops j K (a.put oi.dst v) w) :
    opS R P ops j (fun a' w' => YP R P ops oi v a' w' ∧ K (a'.put oi.dst v) w') a w := by
  obtain ⟨h1, h2, h3⟩ := Oper.apart_spec hap
  have keep : ∀ u w', R w w' → YP R P ops oi v (a.put oj.dst u) w' := fun u w' g => by
    rcases hy with ⟨hw, hv⟩ | ⟨hw, e⟩
    · exact .inl ⟨by rw [wanted_put oi a oj.dst u h3]; exact hw, fun x hx => pAt_put (ops := ops) hsi h3 (fun t ht hd => h2 t hd ht) (hv x (Rl.trans g hx))⟩
    · exact .inr ⟨by rw [wanted_put oi a oj.dst u h3]; exact hw, e⟩
  unfold opS at *
  simp only [hj] at *
  rw [wanted_put oj a oi.dst v h1] at h
  split
  · rename_i hw
    rw [if_pos hw] at h
    unfold Oper.wp at *
    rw [execOp_put (ops := ops) oj hsj a oi.dst v h1] at h
    refine Hd.upon_map (fun u w' hu => ⟨hu.1, ⟨u, rfl⟩, keep u w' hu.1, ?_⟩) (fun d w' hu => ?_) h
    · rw [← Act.put_comm a v u h2]; exact hu.2.2
    · obtain ⟨_, ⟨u, hu⟩, _⟩ := hu
      exact (Hd.no_defer (a := a.put oi.dst v) hu).elim
  · rename_i hw
    rw [if_neg hw] at h
    exact ⟨keep _ w (Rl.refl _), by rw [← Act.put_comm a v undef h2]; exact h⟩

/-- One that leaves memory alone may be taken first. -/
theorem anyS_first {Q : Act → World → Prop} {i : Nat} {oi : Oper} {v : Value} (hi : ops[i]? = some oi) (hsel : ∀ (j : Nat) (o : Oper) cs b, ops[j]? = some o → o.op ≠ .select cs b) :
    ∀ (f : Nat) (listed : Array Bool) (a : Act) (w : World),
      (∀ j oj, ops[j]? = some oj → j ≠ i → listed.getD j true = false → (∀ e ∈ oj.after, Region.binds md e = true → e.on ≠ i) → oi.apart ops oj = true) →
      i ∈ Region.ready md ops listed → YP R P ops oi v a w →
      anyS R P md ops Q f (listed.setIfInBounds i true) (a.put oi.dst v) w → anyS R P md ops Q (f + 1) listed a w := by
  intro f
  induction f with
  | zero =>
    intro listed a w _ hr hy H
    refine ⟨fun h => (by rw [h] at hr; cases hr), fun j hj => ?_⟩
    by_cases hji : j = i
    · subst hji; exact hy.opS hi H
    · have := ready_mono hj hji
      rw [H.1] at this
      cases this
  | succ f ih =>
    intro listed a w hfree hr hy H
    refine ⟨fun h => (by rw [h] at hr; cases hr), fun j hj => ?_⟩
    by_cases hji : j = i
    · subst hji; exact hy.opS hi H
    · have h1 := H.2 j (ready_mono hj hji)
      obtain ⟨hjun, oj, hoj, hall⟩ := mem_ready.1 hj
      have hnot : ∀ e ∈ oj.after, Region.binds md e = true → e.on ≠ i := fun e he hb heq => by
        have h1 := hall e he hb
        have h0 := (mem_ready.1 hr).1
        rw [heq] at h1
        rcases Nat.lt_or_ge i listed.size with h' | h'
        · simp [h'] at h0 h1; rw [h0] at h1; cases h1
        · simp [Array.getElem?_eq_none h'] at h1
      have h2 := opS_put hoj (hfree j oj hoj hji hjun hnot) (fun cs b => hsel i oi cs b hi) (fun cs b => hsel j oj cs b hoj) hy h1
      have hfree' : ∀ k ok, ops[k]? = some ok → k ≠ i → (listed.setIfInBounds j true).getD k true = false →
          (∀ e ∈ ok.after, Region.binds md e = true → e.on ≠ i) → oi.apart ops ok = true := fun k ok hk hki hun hno => by
        refine hfree k ok hk hki ?_ hno
        by_cases hjk : j = k
        · subst hjk; exact hjun
        · rw [getD_set_ne true hjk] at hun; exact hun
      refine opS_mono (fun oi' u w' _ g h3 => ih (listed.setIfInBounds j true) _ w' hfree' (ready_mono hr (Ne.symm hji)) h3.1 ?_) (fun hn => by rw [hoj] at hn; cases hn) h2
      rw [Array.setIfInBounds_comm _ _ hji]
      exact h3.2

/-! ### an order of one's own -/
/-- What the kernel is asked: each operation in its turn, alone (true) or early (false). -/
def ordB (md : Region.Mode) (ops : Array Oper) : List (Nat × Bool) → Array Bool → Bool
  | [], listed => (Region.ready md ops listed).isEmpty
  | (i, s) :: rest, listed => (if s then Region.ready md ops listed == [i] else (Region.ready md ops listed).contains i && Region.free md ops listed i) && ordB md ops rest (listed.setIfInBounds i true)

def wpO (R : World → World → Prop) (P : Program) (ops : Array Oper) (Q : Act → World → Prop) : List (Nat × Bool) → Act → World → Prop
  | [], a, w => Q a w
  | (i, s) :: rest, a, w => ∃ o, ops[i]? = some o ∧
      if Region.wanted o (yielded ops a.tmps) = true then
        (if s then ∃ S : Value → World → Prop, sAt R P o a w S ∧ ∀ v w', R w w' → S v w' → wpO R P ops Q rest (a.put o.dst v) w'
         else ∃ v, (∀ w', R w w' → pAt P o a w' v) ∧ wpO R P ops Q rest (a.put o.dst v) w)
      else wpO R P ops Q rest (a.put o.dst undef) w

theorem anyS_of_O {Q : Act → World → Prop} (hs : Region.noSelect ops = true) : ∀ (l : List (Nat × Bool)) (listed : Array Bool) (a : Act) (w : World),
    ordB md ops l listed = true → wpO R P ops Q l a w → anyS R P md ops Q l.length listed a w
  | [], listed, a, w, hB, h => ⟨by simpa [ordB] using hB, h⟩
  | (i, s) :: rest, listed, a, w, hB, h => by
    simp only [ordB, Bool.and_eq_true] at hB
    obtain ⟨hB, hB'⟩ := hB
    obtain ⟨o, hi, h⟩ := h
    have IH := fun a w => anyS_of_O (Q := Q) hs rest (listed.setIfInBounds i true) a w hB'
    cases s with
    | false =>
      simp only [Bool.false_eq_true, if_false, Bool.and_eq_true] at hB h
      obtain ⟨hr, hf⟩ := hB
      have hr' : i ∈ Region.ready md ops listed := by simpa using hr
      by_cases hw : Region.wanted o (yielded ops a.tmps) = true
      · rw [if_pos hw] at h
        obtain ⟨v, hv, h⟩ := h
        exact anyS_first hi (Region.noSelect_spec hs) _ listed a w (Region.free_spec hi hf) hr' (.inl ⟨hw, hv⟩) (IH _ _ h)
      · rw [if_neg hw] at h
        exact anyS_first hi (Region.noSelect_spec hs) _ listed a w (Region.free_spec hi hf) hr' (.inr ⟨by simpa using hw, rfl⟩) (IH _ _ h)
    | true =>
      simp only [if_true, beq_iff_eq] at hB h
      refine ⟨fun h0 => (by rw [hB] at h0; cases h0), fun j hj => ?_⟩
      rw [hB, List.mem_singleton] at hj
      subst hj
      unfold opS
      simp only [hi]
      by_cases hw : Region.wanted o (yielded ops a.tmps) = true
      · rw [if_pos hw] at h ⊢
        obtain ⟨S, h1, h2⟩ := h
        unfold sAt Oper.wp at h1
        unfold Oper.wp
        refine Hd.upon_map (fun u w' hu => ?_) (fun d w' hu => ?_) h1
        · obtain ⟨v, e, g, hR⟩ := hu
          exact ⟨g, ⟨u, rfl⟩, by rw [e]; exact IH _ _ (h2 v w' g hR)⟩
        · obtain ⟨v, e, _⟩ := hu
          exact (Hd.no_defer e).elim
      · rw [if_neg hw] at h ⊢
        exact IH _ _ h

/-- THE LAW. -/
theorem wp_region_ord {id : Nat} {Q : Exit → Act → World → Prop} {a : Act} {w : World} {l : List Oper} (ord : List (Nat × Bool)) (hm : P.follows .mixedOrders = true)
    (hB : (Region.noSelect l.toArray && (ord.length == l.length && ordB .any l.toArray ord (Array.replicate l.length false))) = true)
    (h : ∀ w0 : World, Gr w w0 → ∀ K : Act → World → Prop, (∀ a' w', Q .normal a' w' → K a' w') → wpO R P l.toArray K ord a w0) : (Code.region id l.toArray true).wp P Q a w := by
  simp only [Bool.and_eq_true, beq_iff_eq] at hB
  obtain ⟨hs, hl, hB⟩ := hB
  refine wp_region_any hm ?_
  have H := anyS_of_O (md := .any) (P := P) (Q := fun a w => Q .normal a w) hs ord (Array.replicate l.length false) a { w with drawn := w.drawn + 1 } hB (h _ (Below.refl _ _).drew _ (fun _ _ x => x))
  have H2 := wpAny_of_S (Q' := Q) (fun a w x => x) _ _ _ _ H
  rw [hl] at H2
  simpa using H2

/-! ### a tail that is forced: whatever it does, it comes last -/
def anyT (R : World → World → Prop) (P : Program) (md : Region.Mode) (ops : Array Oper) (n : Nat) (L : Array Bool → Act → World → Prop) : Nat → Array Bool → Act → World → Prop
  | 0, listed, a, w => L listed a w
  | f + 1, listed, a, w => Region.ready md ops listed ≠ [] ∧ ∀ i ∈ Region.ready md ops listed, i < n ∧ opS R P ops i (anyT R P md ops n L f (listed.setIfInBounds i true)) a w

theorem wpAny_of_T {n g : Nat} {L : Array Bool → Act → World → Prop} {Q' : Exit → Act → World → Prop} (hL : ∀ listed a w, L listed a w → wpAny P md ops Q' g listed a w) :
    ∀ (f : Nat) (listed : Array Bool) (a : Act) (w : World), anyT R P md ops n L f listed a w → wpAny P md ops Q' (f + g) listed a w
  | 0, listed, a, w, h => by rw [Nat.zero_add]; exact hL _ _ _ h
  | f + 1, listed, a, w, h => by
    rw [show f + 1 + g = (f + g) + 1 by omega]
    exact ⟨fun h0 => absurd h0 h.1, fun i hi => wpOp_of_opS (fun a' w' h' => wpAny_of_T hL f _ a' w' h') (h.2 i hi).2⟩

theorem anyT_first {n : Nat} {L : Array Bool → Act → World → Prop} {i : Nat} {oi : Oper} {v : Value} (hi : ops[i]? = some oi) (hsel : ∀ (j : Nat) (o : Oper) cs b, ops[j]? = some o → o.op ≠ .select cs b)
    (hs : Region.sinkB md ops n = true) (hc : Region.chainB md ops n = true) (hn : n < ops.size) (hin : i < n)
    (hdone : ∀ listed a w, L listed a w → ∀ j ∈ Region.ready md ops listed, n ≤ j) :
    ∀ (f : Nat) (listed : Array Bool) (a : Act) (w : World), HeadInv md ops n listed →
      (∀ j oj, ops[j]? = some oj → j ≠ i → listed.getD j true = false → (∀ e ∈ oj.after, Region.binds md e = true → e.on ≠ i) → oi.apart ops oj = true) →
      i ∈ Region.ready md ops listed → YP R P ops oi v a w →
      anyT R P md ops n L f (listed.setIfInBounds i true) (a.put oi.dst v) w → anyT R P md ops n L (f + 1) listed a w := by
  intro f
  induction f with
  | zero =>
    intro listed a w inv _ hr hy H
    have hun := (mem_ready.1 hr).1
    refine ⟨fun h => (by rw [h] at hr; cases hr), fun j hj => ?_⟩
    have hjn : j < n := by
      rcases Nat.lt_or_ge j n with h | h
      · exact h
      · exact absurd hj (tail_waits hs hc hn inv _ i rfl hin hun j h)
    refine ⟨hjn, ?_⟩
    by_cases hji : j = i
    · subst hji; exact hy.opS hi H
    · have := hdone _ _ _ H j (ready_mono hj hji)
      omega
  | succ f ih =>
    intro listed a w inv hfree hr hy H
    have hun := (mem_ready.1 hr).1
    refine ⟨fun h => (by rw [h] at hr; cases hr), fun j hj => ?_⟩
    have hjn : j < n := by
      rcases Nat.lt_or_ge j n with h | h
      · exact h
      · exact absurd hj (tail_waits hs hc hn inv _ i rfl hin hun j h)
    refine ⟨hjn, ?_⟩
    by_cases hji : j = i
    · subst hji; exact hy.opS hi H
    · have h1 := (H.2 j (ready_mono hj hji)).2
      obtain ⟨hjun, oj, hoj, hall⟩ := mem_ready.1 hj
      have hnot : ∀ e ∈ oj.after, Region.binds md e = true → e.on ≠ i := fun e he hb heq => by
        have h1 := hall e he hb
        rw [heq, getD_both hun] at h1
        cases h1
      have h2 := opS_put hoj (hfree j oj hoj hji hjun hnot) (fun cs b => hsel i oi cs b hi) (fun cs b => hsel j oj cs b hoj) hy h1
      have hfree' : ∀ k ok, ops[k]? = some ok → k ≠ i → (listed.setIfInBounds j true).getD k true = false →
          (∀ e ∈ ok.after, Region.binds md e = true → e.on ≠ i) → oi.apart ops ok = true := fun k ok hk hki hun hno => by
        refine hfree k ok hk hki ?_ hno
        by_cases hjk : j = k
        · subst hjk; exact hjun
        · rw [getD_set_ne true hjk] at hun; exact hun
      refine opS_mono (fun oi' u w' _ g h3 => ih (listed.setIfInBounds j true) _ w' (inv.set hj hjn) hfree' (ready_mono hr (Ne.symm hji)) h3.1 ?_) (fun hn => by rw [hoj] at hn; cases hn) h2
      rw [Array.setIfInBounds_comm _ _ hji]
      exact h3.2

def ordT (md : Region.Mode) (ops : Array Oper) (n : Nat) : List (Nat × Bool) → Array Bool → Bool
  | [], listed => Region.seqB md ops (ops.size - n) n listed
  | (i, s) :: rest, listed => decide (i < n) && (if s then Region.ready md ops listed == [i] else (Region.ready md ops listed).contains i && Region.free md ops listed i) && ordT md ops n rest (listed.setIfInBounds i true)

theorem anyT_of_O {n : Nat} {K : Act → World → Prop} (hsel : Region.noSelect ops = true) (hs : Region.sinkB md ops n = true) (hc : Region.chainB md ops n = true) (hn : n < ops.size) : ∀ (l : List (Nat × Bool)) (listed : Array Bool) (a : Act) (w : World), HeadInv md ops n listed →
    ordT md ops n l listed = true → wpO R P ops K l a w → anyT R P md ops n (fun listed a w => Region.seqB md ops (ops.size - n) n listed = true ∧ K a w) l.length listed a w
  | [], listed, a, w, inv, hB, h => ⟨hB, h⟩
  | (i, s) :: rest, listed, a, w, inv, hB, h => by
    simp only [ordT, Bool.and_eq_true, decide_eq_true_eq] at hB
    obtain ⟨⟨hin, hB⟩, hB'⟩ := hB
    obtain ⟨o, hi, h⟩ := h
    have hmem : i ∈ Region.ready md ops listed := by
      cases s with
      | false => simp only [Bool.false_eq_true, if_false, Bool.and_eq_true] at hB; simpa using hB.1
      | true => simp only [if_true, beq_iff_eq] at hB; rw [hB]; exact List.mem_singleton.2 rfl
    have IH := fun a w => anyT_of_O (K := K) hsel hs hc hn rest (listed.setIfInBounds i true) a w (inv.set hmem hin) hB'
    have hdone : ∀ (listed : Array Bool) (a : Act) (w : World), Region.seqB md ops (ops.size - n) n listed = true ∧ K a w → ∀ j ∈ Region.ready md ops listed, n ≤ j := fun listed a w hh j hj => seqB_ready hh.1 j hj
    cases s with
    | false =>
      simp only [Bool.false_eq_true, if_false, Bool.and_eq_true] at hB h
      by_cases hw : Region.wanted o (yielded ops a.tmps) = true
      · rw [if_pos hw] at h
        obtain ⟨v, hv, h⟩ := h
        exact anyT_first hi (Region.noSelect_spec hsel) hs hc hn hin hdone _ listed a w inv (Region.free_spec hi hB.2) hmem (.inl ⟨hw, hv⟩) (IH _ _ h)
      · rw [if_neg hw] at h
        exact anyT_first hi (Region.noSelect_spec hsel) hs hc hn hin hdone _ listed a w inv (Region.free_spec hi hB.2) hmem (.inr ⟨by simpa using hw, rfl⟩) (IH _ _ h)
    | true =>
      simp only [if_true, beq_iff_eq] at hB h
      refine ⟨fun h0 => (by rw [hB] at h0; cases h0), fun j hj => ?_⟩
      rw [hB, List.mem_singleton] at hj
      subst hj
      refine ⟨hin, ?_⟩
      unfold opS
      simp only [hi]
      by_cases hw : Region.wanted o (yielded ops a.tmps) = true
      · rw [if_pos hw] at h ⊢
        obtain ⟨S, h1, h2⟩ := h
        unfold sAt Oper.wp at h1
        unfold Oper.wp
        refine Hd.upon_map (fun u w' hu => ?_) (fun d w' hu => ?_) h1
        · obtain ⟨v, e, g, hR⟩ := hu
          exact ⟨g, ⟨u, rfl⟩, by rw [e]; exact IH _ _ (h2 v w' g hR)⟩
        · obtain ⟨v, e, _⟩ := hu
          exact (Hd.no_defer e).elim
      · rw [if_neg hw] at h ⊢
        exact IH _ _ h

/-- THE LAW, with a tail. -/
theorem wp_region_ordT {id : Nat} {Q : Exit → Act → World → Prop} {a : Act} {w : World} {l : List Oper} (n : Nat) (ord : List (Nat × Bool)) (hm : P.follows .mixedOrders = true)
    (hB : (Region.noSelect l.toArray && (decide (n < l.length) && (Region.sinkB .any l.toArray n && (Region.chainB .any l.toArray n && (ord.length == n && ordT .any l.toArray n ord (Array.replicate l.length false)))))) = true)
    (h : ∀ w0 : World, Gr w w0 → ∀ K : Act → World → Prop, (∀ a' w', wpList P l.toArray Q (l.drop n) a' w' → K a' w') → wpO R P l.toArray K ord a w0) : (Code.region id l.toArray true).wp P Q a w := by
  simp only [Bool.and_eq_true, beq_iff_eq, decide_eq_true_eq] at hB
  obtain ⟨hsel, hn, hs, hc, hl, hB⟩ := hB
  have hn' : n < l.toArray.size := by simpa using hn
  refine wp_region_any hm ?_
  have inv0 : HeadInv .any l.toArray n (Array.replicate l.length false) :=
    ⟨by simp, fun j oj _ hl => (by rw [getD_replicate_false] at hl; cases hl), fun t _ ht => getD_in (by simpa using ht) (getD_replicate_false _ _)⟩
  have H := anyT_of_O (md := .any) (P := P) (n := n) (K := fun a w => wpList P l.toArray Q (l.drop n) a w) hsel hs hc hn' ord (Array.replicate l.length false) a { w with drawn := w.drawn + 1 } inv0 hB (h _ (Below.refl _ _).drew _ (fun _ _ x => x))
  have H2 := wpAny_of_T (Q' := Q) (g := l.toArray.size - n) (fun listed a w hh => by
    have := wpAny_of_seq (md := .any) (Q' := Q) (l.drop n) n listed a w (fun j => by simp [List.getElem?_drop]) (by rw [List.length_drop]; simpa using hh.1) hh.2
    rwa [List.length_drop, show l.length - n = l.toArray.size - n by simp] at this) _ _ _ _ H
  rw [hl, show n + (l.toArray.size - n) = l.toArray.size by omega] at H2
  simpa using H2

theorem wpO_nil {K : Act → World → Prop} {a : Act} {w : World} (h : K a w) : wpO R P ops K [] a w := h
theorem wpO_skip {K : Act → World → Prop} {a : Act} {w : World} {i : Nat} {s : Bool} {rest : List (Nat × Bool)} {o : Oper} (hi : ops[i]? = some o) (hw : Region.wanted o (yielded ops a.tmps) = false) (h : wpO R P ops K rest (a.put o.dst undef) w) : wpO R P ops K ((i, s) :: rest) a w := by
  refine ⟨o, hi, ?_⟩
  rw [if_neg (by rw [hw]; decide)]
  exact h
theorem wpO_pure {K : Act → World → Prop} {a : Act} {w : World} {i : Nat} {rest : List (Nat × Bool)} {o : Oper} (hi : ops[i]? = some o) (hw : Region.wanted o (yielded ops a.tmps) = true) (h : ∃ v, (∀ w', R w w' → pAt P o a w' v) ∧ wpO R P ops K rest (a.put o.dst v) w) : wpO R P ops K ((i, false) :: rest) a w := by
  refine ⟨o, hi, ?_⟩
  rw [if_pos hw]
  exact h
theorem wpO_alone {K : Act → World → Prop} {a : Act} {w : World} {i : Nat} {rest : List (Nat × Bool)} {o : Oper} (hi : ops[i]? = some o) (hw : Region.wanted o (yielded ops a.tmps) = true)
    (h : ∀ K' : Act → World → Prop, (∀ v w', R w w' → wpO R P ops K rest (a.put o.dst v) w' → K' (a.put o.dst v) w') → o.wp P a w (fun a' w' => R w w' ∧ (∃ u, a' = a.put o.dst u) ∧ K' a' w') (fun _ _ _ => False)) : wpO R P ops K ((i, true) :: rest) a w := by
  refine ⟨o, hi, ?_⟩
  rw [if_pos hw, if_pos rfl]
  refine ⟨fun v w' => wpO R P ops K rest (a.put o.dst v) w', ?_, fun v w' _ h => h⟩
  have h1 := h (fun a' w' => ∃ v, a' = a.put o.dst v ∧ wpO R P ops K rest (a.put o.dst v) w') (fun v w' g hh => ⟨v, rfl, hh⟩)
  unfold sAt Oper.wp at *
  refine Hd.upon_map (fun u w' hu => ?_) (fun d w' hu => ?_) h1
  · obtain ⟨g, _, v, e, hh⟩ := hu
    exact ⟨v, e, g, hh⟩
  · obtain ⟨_, ⟨u, hu⟩, _⟩ := hu
    exact (Hd.no_defer hu).elim
/-- Only the plain way on. -/
def exitN (K : Act → World → Prop) : Exit → Act → World → Prop
  | .normal, a, w => K a w
  | _, _, _ => False
theorem upon_exitN {o : Oper} {a : Act} {next next' : Act → World → Prop} {K : Act → World → Prop} {r : Result Next}
    (hv : ∀ u w', next (a.put o.dst u) w' → next' (a.put o.dst u) w')
    (hd : ∀ d w', next (({ a with defers := d :: a.defers } : Act).put o.dst undef) w' → next' (({ a with defers := d :: a.defers } : Act).put o.dst undef) w')
    (h : o.upon P a next (exitN K) r) : o.upon P a next' (fun _ _ _ => False) r := by
  cases r with
  | ok x w' =>
    cases x with
    | value u => exact hv _ _ h
    | skip => exact hv _ _ h
    | defer d => exact hd _ _ h
    | enter f args =>
      refine Calls.mono h fun e w'' hw => ?_
      cases e with
      | returned u => exact hv _ _ hw
      | panicked c => exact hw.elim
      | outgrown => exact hw.elim fun _ h => h.elim fun _ h => h.elim
    | row s args => exact Rows.mono h fun v w'' hw => hv _ _ hw
    | _ => exact h.elim
  | halt x w' =>
    cases x with
    | panic v => exact h.elim
    | _ => exact h.elim
/-- The one that comes up alone, by the walk's own step. -/
theorem wpO_call {K : Act → World → Prop} {a : Act} {w : World} {i : Nat} {rest : List (Nat × Bool)} {o : Oper} (hi : ops[i]? = some o)
    (hw : Region.wanted o (yielded ops a.tmps) = true)
    (h : ∀ QE : Exit → Act → World → Prop, (∀ a' w', (∃ v, a' = a.put o.dst v ∧ R w w' ∧ wpO R P ops K rest a' w') → QE .normal a' w') → wpList P ops QE [o] a w) : wpO R P ops K ((i, true) :: rest) a w := by
  refine ⟨o, hi, ?_⟩
  rw [if_pos hw, if_pos rfl]
  refine ⟨fun v w' => wpO R P ops K rest (a.put o.dst v) w', ?_, fun v w' _ h => h⟩
  have h1 := h (exitN fun a' w' => ∃ v, a' = a.put o.dst v ∧ R w w' ∧ wpO R P ops K rest (a.put o.dst v) w') (fun a' w' hh => by
    obtain ⟨v, rfl, g, hh⟩ := hh
    exact ⟨v, rfl, g, hh⟩)
  unfold wpList at h1
  rw [if_pos hw] at h1
  rcases h1 with h1 | ⟨_, _, _, h1⟩
  · unfold sAt Oper.wp at *
    refine upon_exitN (fun u w' hu => hu) (fun d w' hu => ?_) h1
    obtain ⟨v, e, _⟩ := hu
    exact (Hd.no_defer e).elim
  · exact h1.elim
theorem pAt_of_quiet {o : Oper} {a : Act} {w1 : World} {v : Value} (h : ∀ K : Act → Prop, (∀ a', a' = a.put o.dst v → K a') → o.quiet P a (fun w' => w' = w1) K) : pAt P o a w1 v := by
  obtain ⟨u, hu, he⟩ := h (fun a' => a' = a.put o.dst v) (fun a' h => h)
  have h1 := hu w1 rfl
  unfold pAt Oper.wp
  unfold Oper.quietAt at h1
  revert h1
  generalize (execOp a.eval o).run P w1 = r
  intro h1
  cases r with
  | ok x w' =>
    cases x with
    | value x => obtain ⟨rfl, rfl⟩ := h1; exact ⟨he, rfl⟩
    | skip => obtain ⟨rfl, rfl⟩ := h1; exact ⟨he, rfl⟩
    | enter f args =>
      obtain ⟨rfl, h1⟩ := h1
      refine Calls.mono h1 fun e w'' hw => ?_
      obtain ⟨rfl, rfl⟩ := hw
      exact ⟨he, rfl⟩
    | _ => exact h1.elim
  | halt x w' => exact h1.elim
end Go.Proofs.YtogflfepkddbhaaDoor.Oe
namespace Go.Proofs.YtogflfepkddbhaaDoor
set_option linter.unusedVariables false
open Go.ChangeShapes Go.WideShapes Go.ChangeAt Go.RowKit

/-- w' is w with new blocks; the blocks of S alone may have turned. -/
structure Kx (S : Nat → Prop) (w w' : World) : Prop where
  os : w'.os = w.os
  tape : w'.tape = w.tape
  output : w'.output = w.output
  size : w.heap.size ≤ w'.heap.size
  block : ∀ k, k < w.heap.size → ¬ S k → w'.heap[k]? = w.heap[k]?
theorem Kx.refl {S : Nat → Prop} (w : World) : Kx S w w := ⟨rfl, rfl, rfl, Nat.le_refl _, fun _ _ _ => rfl⟩
theorem Kx.trans {S : Nat → Prop} {a b c : World} (h : Kx S a b) (k : Kx S b c) : Kx S a c :=
  ⟨k.os.trans h.os, k.tape.trans h.tape, k.output.trans h.output, Nat.le_trans h.size k.size, fun i hi hs => (k.block i (Nat.lt_of_lt_of_le hi h.size) hs).trans (h.block i hi hs)⟩
theorem Kx.of_gr {S : Nat → Prop} {a b : World} (g : Gr a b) : Kx S a b := ⟨g.os, g.tape, g.output, g.size, fun k hk _ => g.block k hk⟩
theorem Kx.draw {S : Nat → Prop} (w : World) : Kx S w { w with drawn := w.drawn + 1 } := ⟨rfl, rfl, rfl, Nat.le_refl _, fun _ _ _ => rfl⟩
instance kxRl (S : Nat → Prop) : Oe.Rl (Kx S) := ⟨Kx.refl, Kx.trans, Kx.draw⟩
theorem Kx.alloc {S : Nat → Prop} {a b : World} (h : Kx S a b) (o : Obj) : Kx S a (b.alloc o) := h.trans (Kx.of_gr ((Below.refl _ _).alloc (Nat.le_refl _) _))
theorem Kx.drew {S : Nat → Prop} {a b : World} (h : Kx S a b) : Kx S a b.drew := ⟨h.os, h.tape, h.output, h.size, h.block⟩
theorem Kx.setCell {S : Nat → Prop} {a b : World} (h : Kx S a b) {p : Addr} (hp : S p.block) (u : Value) : Kx S a (b.setCell p u) :=
  h.trans ⟨rfl, rfl, rfl, by simp [World.setCell], fun k hk hs => Below.heap_setCell _ _ _ _ (fun e => hs (e ▸ hp))⟩
theorem Kx.gr {S : Nat → Prop} {w a b : World} (h : Kx S a b) (g : Gr w a) (hS : ∀ k, S k → w.heap.size ≤ k) : Gr w b :=
  ⟨h.os.trans g.os, h.tape.trans g.tape, h.output.trans g.output, Nat.le_trans g.size h.size, fun k hk => (h.block k (Nat.lt_of_lt_of_le hk g.size) (fun hs => by have := hS k hs; omega)).trans (g.block k hk)⟩
theorem Kx.mono {S T : Nat → Prop} {a b : World} (h : Kx S a b) (hS : ∀ k, S k → T k) : Kx T a b := ⟨h.os, h.tape, h.output, h.size, fun k hk hs => h.block k hk (fun x => hs (hS k x))⟩
theorem cell_kx {S : Nat → Prop} {a b : World} {p : Addr} {v : Value} (g : Kx S a b) (hs : ¬ S p.block) (h : a.cell? p = some v) : b.cell? p = some v :=
  (World.cell?_of_block (w := a) (g.block p.block (World.block_lt_of_cell? a p h) hs)).trans h
theorem frozen_kx {S : Nat → Prop} {a b : World} {p : Addr} {v : Value} (g : Kx S a b) (hs : ¬ S p.block) (h : a.cell? p = some v) (hf : a.frozen? p = false) : b.frozen? p = false :=
  (World.frozen?_of_block (w := a) (g.block p.block (World.block_lt_of_cell? a p h) hs)).trans hf
theorem heap_kx {S : Nat → Prop} {a b : World} {k : Nat} {o : Obj} (g : Kx S a b) (hs : ¬ S k) (h : a.heap[k]? = some o) : b.heap[k]? = some o :=
  (g.block k (by rcases Nat.lt_or_ge k a.heap.size with h' | h'; exact h'; rw [Array.getElem?_eq_none h'] at h; cases h) hs).trans h
end Go.Proofs.YtogflfepkddbhaaDoor
