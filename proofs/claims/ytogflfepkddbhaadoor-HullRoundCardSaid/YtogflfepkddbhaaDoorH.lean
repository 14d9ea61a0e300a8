/- A region that draws its order: its operations read old memory, call what makes new blocks alone, and at most one of them makes a variable's block; a forced row of stores stands at its end. One walk in the text's order serves every order.; a drawn region whose head only reads and calls, and whose tail is forced; structs of numbers that come in; the document's own sums and comparisons; A region that draws its order, with several operations that change memory: each is met where it stands in the text.; the document's own sums, against the program's: WideAdds -/
import Derived.Test.YtogflfepkddbhaaDoorK
import Derived.StillTail
import Derived.Deep.DeepCutAuto
namespace Go.Proofs.YtogflfepkddbhaaDoor.Hd
set_option linter.unusedVariables false
set_option linter.unusedSimpArgs false
open Go.ChangeShapes Go.WideShapes Go.ChangeAt Go.RowKit
variable {P : Program} {ops : Array Oper} {md : Region.Mode} {Rc : World → Prop} {Pk : Act → Prop} {n k : Nat}

/-- In world w the operation leaves v in its slot, and only new blocks come. -/
def gAt (P : Program) (o : Oper) (a : Act) (w : World) (v : Value) : Prop := o.wp P a w (fun a' w' => a' = a.put o.dst v ∧ Gr w w') (fun _ _ _ => False)

theorem upon_map {o : Oper} {a b : Act} {next next' : Act → World → Prop} {Q : Exit → Act → World → Prop} {r : Result Next}
    (hv : ∀ u w', next (a.put o.dst u) w' → next' (b.put o.dst u) w')
    (hd : ∀ d w', next (({ a with defers := d :: a.defers } : Act).put o.dst undef) w' → next' (({ b with defers := d :: b.defers } : Act).put o.dst undef) w')
    (h : o.upon P a next (fun _ _ _ => False) r) : o.upon P b next' Q r := by
  cases r with
  | ok x w' =>
    cases x with
    | value u => exact hv _ _ h
    | skip => exact hv _ _ h
    | defer d => exact hd _ _ h
    | enter f args =>
      refine Calls.mono h fun e w'' hw => ?_
      cases e with
      | returned u => exact hv _ _ hw
      | panicked c => exact hw.elim
      | outgrown => exact hw.elim fun _ h => h.elim fun _ h => h.elim
    | row s args => exact Rows.mono h fun v w'' hw => hv _ _ hw
    | _ => exact h.elim
  | halt x w' =>
    cases x with
    | panic v => exact h.elim
    | _ => exact h.elim

theorem no_defer {a : Act} {d : Deferred} {x : Option Tmp} {v : Value} (h : (({ a with defers := d :: a.defers } : Act).put x undef) = a.put x v) : False := by
  have h1 : (({ a with defers := d :: a.defers } : Act).put x undef).defers = (a.put x v).defers := by rw [h]
  have h2 : (({ a with defers := d :: a.defers } : Act).put x undef).defers = d :: a.defers := by cases x <;> rfl
  have h3 : (a.put x v).defers = a.defers := by cases x <;> rfl
  rw [h2, h3] at h1
  have := congrArg List.length h1
  simp at this

theorem gAt_put {o : Oper} {a : Act} {w : World} {v x : Value} {d : Option Tmp} (hs : ∀ cs b, o.op ≠ .select cs b) (hl : ∀ t, d = some t → t ∉ o.looksAt ops) (hne : ∀ t, d = some t → o.dst ≠ some t)
    (h : gAt P o a w v) : gAt P o (a.put d x) w v := by
  unfold gAt Oper.wp at *
  rw [execOp_put (ops := ops) o hs a d x hl]
  refine upon_map (fun u w' hu => ⟨?_, hu.2⟩) (fun dd w' hu => (no_defer hu.1).elim) h
  rw [Act.put_comm a x u hne, Act.put_comm a x v hne, hu.1]
theorem gAt_unput {o : Oper} {a : Act} {w : World} {v x : Value} {d : Option Tmp} (hs : ∀ cs b, o.op ≠ .select cs b) (hl : ∀ t, d = some t → t ∉ o.looksAt ops) (hne : ∀ t, d = some t → o.dst ≠ some t)
    (hcan : ∀ u, (a.put d x).put o.dst u = (a.put d x).put o.dst v → a.put o.dst u = a.put o.dst v)
    (h : gAt P o (a.put d x) w v) : gAt P o a w v := by
  unfold gAt Oper.wp at *
  rw [execOp_put (ops := ops) o hs a d x hl] at h
  refine upon_map (fun u w' hu => ⟨hcan u hu.1, hu.2⟩) (fun dd w' hu => (no_defer (a := a.put d x) hu.1).elim) h

/-- Operation number i comes up. -/
def gOp (P : Program) (ops : Array Oper) (Rc : World → Prop) (Pk : Act → Prop) (k i : Nat) (K : Act → Prop) (a : Act) : Prop :=
  if i = k then Pk a ∧ K a else
  match ops[i]? with
  | none => K a
  | some o => if Region.wanted o (yielded ops a.tmps) = true then ∃ v, (∀ w, Rc w → gAt P o a w v) ∧ K (a.put o.dst v) else K (a.put o.dst undef)

theorem gOp_mono {i : Nat} {a : Act} {K K' : Act → Prop} (h : ∀ a, K a → K' a) (hh : gOp P ops Rc Pk k i K a) : gOp P ops Rc Pk k i K' a := by
  unfold gOp at *
  split
  · rename_i hi; rw [if_pos hi] at hh; exact ⟨hh.1, h _ hh.2⟩
  · rename_i hi
    rw [if_neg hi] at hh
    split
    · rename_i ho; simp only [ho] at hh; exact h _ hh
    · rename_i o ho
      simp only [ho] at hh
      split
      · rename_i hw; rw [if_pos hw] at hh; exact ⟨hh.choose, hh.choose_spec.1, h _ hh.choose_spec.2⟩
      · rename_i hw; rw [if_neg hw] at hh; exact h _ hh

theorem gOp_mono' {i : Nat} {o : Oper} {a : Act} {K K' : Act → Prop} (hik : i ≠ k) (ho : ops[i]? = some o) (h : ∀ u, K (a.put o.dst u) → K' (a.put o.dst u)) (hh : gOp P ops Rc Pk k i K a) : gOp P ops Rc Pk k i K' a := by
  unfold gOp at *
  rw [if_neg hik] at *
  simp only [ho] at *
  split
  · rename_i hw; rw [if_pos hw] at hh; exact ⟨hh.choose, hh.choose_spec.1, h _ hh.choose_spec.2⟩
  · rename_i hw; rw [if_neg hw] at hh; exact h _ hh

/-- The text's order. -/
def wpG (P : Program) (ops : Array Oper) (Rc : World → Prop) (Pk : Act → Prop) (k : Nat) (Q : Act → Prop) : List Oper → Nat → Act → Prop
  | [], _, a => Q a
  | o :: rest, i, a => if i = k then Pk a ∧ wpG P ops Rc Pk k Q rest (i + 1) a else
      if Region.wanted o (yielded ops a.tmps) = true then ∃ v, (∀ w, Rc w → gAt P o a w v) ∧ wpG P ops Rc Pk k Q rest (i + 1) (a.put o.dst v) else wpG P ops Rc Pk k Q rest (i + 1) (a.put o.dst undef)

def wpH (P : Program) (md : Region.Mode) (ops : Array Oper) (Rc : World → Prop) (Pk : Act → Prop) (k n : Nat) (L : Array Bool → Act → Prop) : Nat → Array Bool → Act → Prop
  | 0, listed, a => L listed a
  | f + 1, listed, a => Region.ready md ops listed ≠ [] ∧ ∀ i ∈ Region.ready md ops listed, i < n ∧ gOp P ops Rc Pk k i (wpH P md ops Rc Pk k n L f (listed.setIfInBounds i true)) a

/-- In this state the operation leaves v. -/
def GIn (P : Program) (ops : Array Oper) (Rc : World → Prop) (o : Oper) (v : Value) (a : Act) : Prop :=
  (Region.wanted o (yielded ops a.tmps) = true ∧ ∀ w, Rc w → gAt P o a w v) ∨ (Region.wanted o (yielded ops a.tmps) = false ∧ v = undef)

theorem GIn.gOp {i : Nat} {o : Oper} {v : Value} {a : Act} (hik : i ≠ k) (hi : ops[i]? = some o) (hy : GIn P ops Rc o v a) {K : Act → Prop} (h : K (a.put o.dst v)) : gOp P ops Rc Pk k i K a := by
  unfold Hd.gOp
  rw [if_neg hik]
  simp only [hi]
  rcases hy with ⟨hw, hv⟩ | ⟨hw, rfl⟩
  · rw [if_pos hw]; exact ⟨v, hv, h⟩
  · rw [if_neg (by rw [hw]; decide)]; exact h

theorem gIn_of_gOp {i : Nat} {o : Oper} {a : Act} {K : Act → Prop} (hik : i ≠ k) (hi : ops[i]? = some o) (h : Hd.gOp P ops Rc Pk k i K a) : ∃ v, GIn P ops Rc o v a ∧ K (a.put o.dst v) := by
  unfold Hd.gOp at h
  rw [if_neg hik] at h
  simp only [hi] at h
  by_cases hw : Region.wanted o (yielded ops a.tmps) = true
  · rw [if_pos hw] at h
    obtain ⟨v, h1, h2⟩ := h
    exact ⟨v, .inl ⟨hw, h1⟩, h2⟩
  · rw [if_neg hw] at h
    exact ⟨undef, .inr ⟨by simpa using hw, rfl⟩, h⟩

theorem GIn.put {o : Oper} {v x : Value} {a : Act} {d : Option Tmp} (hs : ∀ cs b, o.op ≠ .select cs b) (hl : ∀ t, d = some t → t ∉ o.looksAt ops) (hne : ∀ t, d = some t → o.dst ≠ some t)
    (h : GIn P ops Rc o v a) : GIn P ops Rc o v (a.put d x) := by
  unfold GIn at *
  rw [wanted_put o a d x hl]
  rcases h with ⟨h1, h2⟩ | h
  · exact .inl ⟨h1, fun w hw => gAt_put hs hl hne (h2 w hw)⟩
  · exact .inr h

theorem put_cancel {a : Act} {d x : Option Tmp} {y u v : Value} (h : (a.put d y).put x u = (a.put d y).put x v) : a.put x u = a.put x v := by
  cases x with
  | none => rfl
  | some t =>
    have hsz : (a.put d y).tmps.size = a.tmps.size := by cases d <;> simp [Act.put]
    have h1 : ((a.put d y).put (some t) u).tmps[t]? = ((a.put d y).put (some t) v).tmps[t]? := by rw [h]
    simp only [Act.put] at h1 ⊢
    by_cases ht : t < a.tmps.size
    · have ht2 : t < (a.put d y).tmps.size := by rw [hsz]; exact ht
      cases d with
      | none => simp [Act.put, ht] at h1; rw [h1]
      | some e => simp [Act.put, ht] at h1; rw [h1]
    · simp [Array.setIfInBounds, ht]

theorem gOp_put {j : Nat} {oi oj : Oper} {v : Value} (hjk : j ≠ k) (hj : ops[j]? = some oj) (hap : oi.apart ops oj = true)
    (hsi : ∀ cs b, oi.op ≠ .select cs b) (hsj : ∀ cs b, oj.op ≠ .select cs b) {K : Act → Prop} {a : Act}
    (hy : GIn P ops Rc oi v a) (h : gOp P ops Rc Pk k j K (a.put oi.dst v)) :
    gOp P ops Rc Pk k j (fun a' => GIn P ops Rc oi v a' ∧ K (a'.put oi.dst v)) a := by
  obtain ⟨h1, h2, h3⟩ := Oper.apart_spec hap
  have h2' : ∀ d, oj.dst = some d → oi.dst ≠ some d := fun d hd hi => h2 d hi hd
  have keep : ∀ u, GIn P ops Rc oi v (a.put oj.dst u) := fun u => GIn.put (ops := ops) hsi h3 h2' hy
  unfold gOp at *
  rw [if_neg hjk] at *
  simp only [hj] at *
  rw [wanted_put oj a oi.dst v h1] at h
  split
  · rename_i hw
    rw [if_pos hw] at h
    obtain ⟨u, hu, hn⟩ := h
    refine ⟨u, fun w hw' => gAt_unput (ops := ops) hsj h1 h2 (fun x hx => put_cancel hx) (hu w hw'), keep u, by rw [← Act.put_comm a v u h2]; exact hn⟩
  · rename_i hw
    rw [if_neg hw] at h
    exact ⟨keep _, by rw [← Act.put_comm a v undef h2]; exact h⟩

/-- An operation that may come up may be taken first. -/
theorem wpH_first {i : Nat} {oi : Oper} {v : Value} {L : Array Bool → Act → Prop} (hP1 : ∀ (oi ok : Oper) a v, ops[k]? = some ok → oi.apart ops ok = true → Pk (a.put oi.dst v) → Pk a) (hik : i ≠ k) (hi : ops[i]? = some oi) (hsel : ∀ (j : Nat) (o : Oper) cs b, ops[j]? = some o → o.op ≠ .select cs b)
    (hs : Region.sinkB md ops n = true) (hc : Region.chainB md ops n = true) (hn : n < ops.size) (hin : i < n)
    (hdone : ∀ listed a, L listed a → ∀ j ∈ Region.ready md ops listed, n ≤ j) :
    ∀ (f : Nat) (listed : Array Bool) (a : Act), HeadInv md ops n listed →
      (∀ j oj, ops[j]? = some oj → j ≠ i → listed.getD j true = false → (∀ e ∈ oj.after, Region.binds md e = true → e.on ≠ i) → oi.apart ops oj = true) →
      i ∈ Region.ready md ops listed → GIn P ops Rc oi v a →
      wpH P md ops Rc Pk k n L f (listed.setIfInBounds i true) (a.put oi.dst v) → wpH P md ops Rc Pk k n L (f + 1) listed a := by
  intro f
  induction f with
  | zero =>
    intro listed a inv _ hr hy H
    have hun := (mem_ready.1 hr).1
    refine ⟨fun h => (by rw [h] at hr; cases hr), fun j hj => ?_⟩
    have hjn : j < n := by
      rcases Nat.lt_or_ge j n with h | h
      · exact h
      · exact absurd hj (tail_waits hs hc hn inv _ i rfl hin hun j h)
    refine ⟨hjn, ?_⟩
    by_cases hji : j = i
    · subst hji; exact hy.gOp hik hi H
    · have := hdone _ _ H j (ready_mono hj hji)
      omega
  | succ f ih =>
    intro listed a inv hfree hr hy H
    have hun := (mem_ready.1 hr).1
    refine ⟨fun h => (by rw [h] at hr; cases hr), fun j hj => ?_⟩
    have hjn : j < n := by
      rcases Nat.lt_or_ge j n with h | h
      · exact h
      · exact absurd hj (tail_waits hs hc hn inv _ i rfl hin hun j h)
    refine ⟨hjn, ?_⟩
    by_cases hji : j = i
    · subst hji; exact hy.gOp hik hi H
    · have h1 := (H.2 j (ready_mono hj hji)).2
      obtain ⟨hjun, oj, hoj, hall⟩ := mem_ready.1 hj
      have hnot : ∀ e ∈ oj.after, Region.binds md e = true → e.on ≠ i := fun e he hb heq => by
        have h1 := hall e he hb
        rw [heq, getD_both hun] at h1
        cases h1
      have hfree' : ∀ m ok, ops[m]? = some ok → m ≠ i → (listed.setIfInBounds j true).getD m true = false →
          (∀ e ∈ ok.after, Region.binds md e = true → e.on ≠ i) → oi.apart ops ok = true := fun m ok hm hmi hun hno => by
        refine hfree m ok hm hmi ?_ hno
        by_cases hjm : j = m
        · subst hjm; exact hjun
        · rw [getD_set_ne true hjm] at hun; exact hun
      have go : ∀ a', GIn P ops Rc oi v a' → wpH P md ops Rc Pk k n L f ((listed.setIfInBounds i true).setIfInBounds j true) (a'.put oi.dst v) → wpH P md ops Rc Pk k n L (f + 1) (listed.setIfInBounds j true) a' := fun a' hy' h3 => by
        refine ih (listed.setIfInBounds j true) a' (inv.set hj hjn) hfree' (ready_mono hr (Ne.symm hji)) hy' ?_
        rw [Array.setIfInBounds_comm _ _ hji]
        exact h3
      by_cases hjk : j = k
      · subst hjk
        unfold gOp at h1 ⊢
        rw [if_pos rfl] at h1 ⊢
        exact ⟨hP1 oi oj a v hoj (hfree j oj hoj hji hjun hnot) h1.1, go a hy h1.2⟩
      · have h2 := gOp_put hjk hoj (hfree j oj hoj hji hjun hnot) (fun cs b => hsel i oi cs b hi) (fun cs b => hsel j oj cs b hoj) hy h1
        exact gOp_mono (fun a' h3 => go a' h3.1 h3.2) h2

/-- The operation that changes memory may be taken first. -/
theorem wpH_first_alloc {ok : Oper} {L : Array Bool → Act → Prop} (hP2 : ∀ (oj : Oper) a v, ok.apart ops oj = true → Pk a → Pk (a.put oj.dst v)) (hs : Region.sinkB md ops n = true) (hc : Region.chainB md ops n = true) (hn : n < ops.size) (hkn : k < n)
    (hdone : ∀ listed a, L listed a → ∀ j ∈ Region.ready md ops listed, n ≤ j) :
    ∀ (f : Nat) (listed : Array Bool) (a : Act), HeadInv md ops n listed →
      (∀ j oj, ops[j]? = some oj → j ≠ k → listed.getD j true = false → (∀ e ∈ oj.after, Region.binds md e = true → e.on ≠ k) → ok.apart ops oj = true) →
      k ∈ Region.ready md ops listed → Pk a →
      wpH P md ops Rc Pk k n L f (listed.setIfInBounds k true) a → wpH P md ops Rc Pk k n L (f + 1) listed a := by
  intro f
  induction f with
  | zero =>
    intro listed a inv _ hr hp H
    have hun := (mem_ready.1 hr).1
    refine ⟨fun h => (by rw [h] at hr; cases hr), fun j hj => ?_⟩
    have hjn : j < n := by
      rcases Nat.lt_or_ge j n with h | h
      · exact h
      · exact absurd hj (tail_waits hs hc hn inv _ k rfl hkn hun j h)
    refine ⟨hjn, ?_⟩
    by_cases hjk : j = k
    · subst hjk; unfold gOp; rw [if_pos rfl]; exact ⟨hp, H⟩
    · have := hdone _ _ H j (ready_mono hj hjk)
      omega
  | succ f ih =>
    intro listed a inv hfree hr hp H
    have hun := (mem_ready.1 hr).1
    refine ⟨fun h => (by rw [h] at hr; cases hr), fun j hj => ?_⟩
    have hjn : j < n := by
      rcases Nat.lt_or_ge j n with h | h
      · exact h
      · exact absurd hj (tail_waits hs hc hn inv _ k rfl hkn hun j h)
    refine ⟨hjn, ?_⟩
    by_cases hjk : j = k
    · subst hjk; unfold gOp; rw [if_pos rfl]; exact ⟨hp, H⟩
    · have h1 := (H.2 j (ready_mono hj hjk)).2
      obtain ⟨hjun, oj, hoj, hall⟩ := mem_ready.1 hj
      have hnot : ∀ e ∈ oj.after, Region.binds md e = true → e.on ≠ k := fun e he hb heq => by
        have h1 := hall e he hb
        rw [heq, getD_both hun] at h1
        cases h1
      have hfree' : ∀ m om, ops[m]? = some om → m ≠ k → (listed.setIfInBounds j true).getD m true = false →
          (∀ e ∈ om.after, Region.binds md e = true → e.on ≠ k) → ok.apart ops om = true := fun m om hm hmi hun hno => by
        refine hfree m om hm hmi ?_ hno
        by_cases hjm : j = m
        · subst hjm; exact hjun
        · rw [getD_set_ne true hjm] at hun; exact hun
      refine gOp_mono' hjk hoj (fun u h3 => ih (listed.setIfInBounds j true) _ (inv.set hj hjn) hfree' (ready_mono hr (Ne.symm hjk)) (hP2 oj a u (hfree j oj hoj hjk hjun hnot) hp) ?_) h1
      rw [Array.setIfInBounds_comm _ _ hjk]
      exact h3

theorem wpH_lex {g : Nat} {Lq : Act → Prop} (hP1 : ∀ (oi ok : Oper) a v, ops[k]? = some ok → oi.apart ops ok = true → Pk (a.put oi.dst v) → Pk a) (hP2 : ∀ (ok oj : Oper) a v, ops[k]? = some ok → ok.apart ops oj = true → Pk a → Pk (a.put oj.dst v)) (hsel : Region.noSelect ops = true) (hs : Region.sinkB md ops n = true) (hc : Region.chainB md ops n = true) (hn : n < ops.size) :
    ∀ (l : List Oper) (i : Nat) (listed : Array Bool) (a : Act), (∀ j, j < l.length → l[j]? = ops[i + j]?) → i + l.length = n → HeadInv md ops n listed →
    (∀ j, listed.getD j false = decide (j < i)) → listed.size = ops.size → Region.lexHead md ops g l.length i listed = true → wpG P ops Rc Pk k Lq l i a →
    wpH P md ops Rc Pk k n (fun listed' a' => (Region.seqB md ops g n listed' = true ∧ listed'.getD k false = decide (k < n)) ∧ Lq a') l.length listed a
  | [], i, listed, a, _, hk, _, hd, _, hB, h => by
    have : i = n := by simpa using hk
    subst this
    exact ⟨⟨by simpa [Region.lexHead] using hB, hd k⟩, h⟩
  | o :: l, i, listed, a, hl, hk, inv, hd, hsz, hB, h => by
    have h0 : ops[i]? = some o := by simpa using (hl 0 (by simp)).symm
    simp only [List.length_cons, Region.lexHead, Bool.and_eq_true] at hB
    obtain ⟨⟨hr, hf⟩, hB'⟩ := hB
    have hkn : i < n := by simp only [List.length_cons] at hk; omega
    have hr' : i ∈ Region.ready md ops listed := by simpa using hr
    have next : ∀ a', wpG P ops Rc Pk k Lq l (i + 1) a' → wpH P md ops Rc Pk k n (fun listed' a' => (Region.seqB md ops g n listed' = true ∧ listed'.getD k false = decide (k < n)) ∧ Lq a') l.length (listed.setIfInBounds i true) a' := fun a' h' =>
      wpH_lex hP1 hP2 hsel hs hc hn l (i + 1) _ _ (fun j hj => by have := hl (j + 1) (by simp; omega); simpa [Nat.add_assoc, Nat.add_comm 1 j] using this) (by simp only [List.length_cons] at hk; omega) (inv.set hr' hkn) (fun j => by
        by_cases hji : i = j
        · subst hji
          simp [hsz, show i < ops.size by omega]
        · rw [getD_set_ne false hji, hd j]
          rw [decide_eq_decide]
          omega) (by simp [hsz]) hB' h'
    unfold wpG at h
    by_cases hik : i = k
    · rw [if_pos hik] at h
      subst hik
      exact wpH_first_alloc (ok := o) (fun oj a v => hP2 o oj a v h0) hs hc hn hkn (fun listed' a' hL => seqB_ready hL.1.1) l.length listed a inv (Region.free_spec h0 hf) hr' h.1 (next a h.2)
    · rw [if_neg hik] at h
      have hst : gOp P ops Rc Pk k i (wpG P ops Rc Pk k Lq l (i + 1)) a := by unfold gOp; rw [if_neg hik]; simp only [h0]; exact h
      obtain ⟨v, hy, hK⟩ := gIn_of_gOp hik h0 hst
      exact wpH_first hP1 hik h0 (Region.noSelect_spec hsel) hs hc hn hkn (fun listed' a' hL => seqB_ready hL.1.1) l.length listed a inv (Region.free_spec h0 hf) hr' hy (next _ hK)

/-- The new variable's block, as it was made. -/
def New (w0 : World) (zs : Array Value) (T : TypeId) (v : Value) (w : World) : Prop := ∃ b, v = .pointer (some ⟨b, 0, none⟩) ∧ w0.heap.size ≤ b ∧ w.heap[b]? = some (.cells zs T)
theorem New.gr {w0 : World} {zs : Array Value} {T : TypeId} {v : Value} {w w' : World} (h : New w0 zs T v w) (g : Gr w w') : New w0 zs T v w' := by
  obtain ⟨b, h1, h2, h3⟩ := h
  have hb : b < w.heap.size := by
    rcases Nat.lt_or_ge b w.heap.size with h | h
    · exact h
    · rw [Array.getElem?_eq_none h] at h3; cases h3
  exact ⟨b, h1, h2, by rw [g.block b hb]; exact h3⟩

/-- How a run's frame stands to the walk's: the one operation's slot besides. -/
def Rel (k : Nat) (d : Option Tmp) (R0 : World → Prop) (R1 : Value → World → Prop) (listed : Array Bool) (a b : Act) (w : World) : Prop :=
  if listed.getD k false = true then ∃ v, b = a.put d v ∧ R1 v w else b = a ∧ R0 w

theorem wpOp_of_gAt {i : Nat} {o : Oper} {b : Act} {w : World} {v : Value} {K' : Act → World → Prop} {Q' : Exit → Act → World → Prop} (ho : ops[i]? = some o) (hw : Region.wanted o (yielded ops b.tmps) = true) (hb : gAt P o b w v)
    (h : ∀ w', Gr w w' → K' (b.put o.dst v) w') : wpOp P ops Q' i K' b w := by
  unfold wpOp
  simp only [ho]
  rw [if_pos hw]
  refine .inl ?_
  unfold gAt Oper.wp at hb
  unfold Oper.wp
  refine upon_map (fun u w' hu => ?_) (fun d w' hu => (no_defer hu.1).elim) hb
  rw [hu.1]
  exact h w' hu.2

/-- The one operation in this frame: it leaves a value and such a world. -/
def Does (P : Program) (ok : Oper) (R0 : World → Prop) (R1 : Value → World → Prop) (a : Act) : Prop := ∀ w, R0 w → ok.wp P a w (fun a' w' => ∃ v, a' = a.put ok.dst v ∧ R1 v w') (fun _ _ _ => False)

theorem Does.put {ok : Oper} {R0 : World → Prop} {R1 : Value → World → Prop} {a : Act} {x : Value} {d : Option Tmp} (hs : ∀ cs b, ok.op ≠ .select cs b) (hl : ∀ t, d = some t → t ∉ ok.looksAt ops) (hne : ∀ t, d = some t → ok.dst ≠ some t)
    (h : Does P ok R0 R1 a) : Does P ok R0 R1 (a.put d x) := by
  intro w hw
  have h := h w hw
  unfold Oper.wp at *
  rw [execOp_put (ops := ops) ok hs a d x hl]
  refine upon_map (fun u w' hu => ?_) (fun dd w' hu => ?_) h
  · obtain ⟨v, h1, h2⟩ := hu
    exact ⟨v, by rw [Act.put_comm a x u hne, Act.put_comm a x v hne, h1], h2⟩
  · obtain ⟨v, h1, h2⟩ := hu
    exact (no_defer h1).elim
theorem Does.unput {ok : Oper} {R0 : World → Prop} {R1 : Value → World → Prop} {a : Act} {x : Value} {d : Option Tmp} (hs : ∀ cs b, ok.op ≠ .select cs b) (hl : ∀ t, d = some t → t ∉ ok.looksAt ops)
    (h : Does P ok R0 R1 (a.put d x)) : Does P ok R0 R1 a := by
  intro w hw
  have h := h w hw
  unfold Oper.wp at *
  rw [execOp_put (ops := ops) ok hs a d x hl] at h
  refine upon_map (fun u w' hu => ?_) (fun dd w' hu => ?_) h
  · obtain ⟨v, h1, h2⟩ := hu
    exact ⟨v, put_cancel h1, h2⟩
  · obtain ⟨v, h1, h2⟩ := hu
    exact (no_defer (a := a.put d x) h1).elim

theorem wpAny_of_H {g : Nat} {R0 : World → Prop} {R1 : Value → World → Prop} {ok : Oper} {L : Array Bool → Act → Prop} {Q' : Exit → Act → World → Prop} (hkn : k < n → ops[k]? = some ok ∧ ok.guard = none)
    (h00 : ∀ w w', R0 w → Gr w w' → R0 w') (h11 : ∀ v w w', R1 v w → Gr w w' → R1 v w') (h0 : ∀ w, R0 w → Rc w) (h1 : ∀ v w, R1 v w → Rc w)
    (hsel : ∀ (j : Nat) (o : Oper) cs b, ops[j]? = some o → o.op ≠ .select cs b)
    (hap : ∀ j o, ops[j]? = some o → j < n → j ≠ k → ∀ t, ok.dst = some t → t ∉ o.looksAt ops ∧ o.dst ≠ some t)
    (hL : ∀ listed a b w, L listed a → Rel k ok.dst R0 R1 listed a b w → wpAny P md ops Q' g listed b w) :
    ∀ (f : Nat) (listed : Array Bool) (a b : Act) (w : World), listed.size = ops.size → Rel k ok.dst R0 R1 listed a b w → wpH P md ops Rc (Does P ok R0 R1) k n L f listed a → wpAny P md ops Q' (f + g) listed b w
  | 0, listed, a, b, w, _, hR, h => by rw [Nat.zero_add]; exact hL _ _ _ _ h hR
  | f + 1, listed, a, b, w, hsz, hR, h => by
    rw [show f + 1 + g = (f + g) + 1 by omega]
    refine ⟨fun h0 => absurd h0 h.1, fun i hi => ?_⟩
    obtain ⟨hin, hop⟩ := h.2 i hi
    have hun := (mem_ready.1 hi).1
    obtain ⟨_, oi, hoi, _⟩ := mem_ready.1 hi
    have hil : i < ops.size := (Array.getElem?_eq_some_iff.1 hoi).1
    have hsz' : (listed.setIfInBounds i true).size = ops.size := by simp [hsz]
    have hrec : ∀ a' b' w', Rel k ok.dst R0 R1 (listed.setIfInBounds i true) a' b' w' → wpH P md ops Rc (Does P ok R0 R1) k n L f (listed.setIfInBounds i true) a' → wpAny P md ops Q' (f + g) (listed.setIfInBounds i true) b' w' := fun a' b' w' hr hh => wpAny_of_H hkn h00 h11 h0 h1 hsel hap hL f _ a' b' w' hsz' hr hh
    unfold Rel at hR
    by_cases hik : i = k
    · subst hik
      obtain ⟨hok, hgu⟩ := hkn hin
      have hf : listed.getD i false = false := getD_both hun
      rw [hf] at hR
      simp only [Bool.false_eq_true, if_false] at hR
      obtain ⟨rfl, hR0⟩ := hR
      unfold gOp at hop
      rw [if_pos rfl] at hop
      unfold wpOp
      simp only [hok]
      rw [if_pos (by unfold Region.wanted; rw [hgu])]
      refine .inl ?_
      have ha := hop.1 w hR0
      unfold Oper.wp at ha ⊢
      have fin : ∀ a' w', (∃ v, a' = b.put ok.dst v ∧ R1 v w') → wpAny P md ops Q' (f + g) (listed.setIfInBounds i true) a' w' := fun a' w' hu => by
        obtain ⟨v, rfl, hv⟩ := hu
        refine hrec b _ _ ?_ hop.2
        unfold Rel
        rw [if_pos (by simp [hsz, hil])]
        exact ⟨v, rfl, hv⟩
      refine upon_map (a := b) (b := b) (fun u w' hu => fin _ _ hu) (fun dd w' hu => fin _ _ hu) ha
    · obtain hap' := hap i oi hoi hin hik
      have hl' : ∀ t, ok.dst = some t → t ∉ oi.looksAt ops := fun t ht => (hap' t ht).1
      have hn' : ∀ t, ok.dst = some t → oi.dst ≠ some t := fun t ht => (hap' t ht).2
      unfold gOp at hop
      rw [if_neg hik] at hop
      simp only [hoi] at hop
      have hkeep : (listed.setIfInBounds i true).getD k false = listed.getD k false := getD_set_ne false hik
      by_cases hkl : listed.getD k false = true
      · rw [if_pos hkl] at hR
        obtain ⟨v, rfl, hnew⟩ := hR
        have hwp := wanted_put oi a ok.dst v hl'
        by_cases hw : Region.wanted oi (yielded ops a.tmps) = true
        · rw [if_pos hw] at hop
          obtain ⟨u, hu, hK⟩ := hop
          refine wpOp_of_gAt hoi (by rw [hwp]; exact hw) (gAt_put (a := a) (ops := ops) (hsel i oi · · hoi) hl' hn' (hu w (h1 v w hnew))) fun w' hgw => ?_
          refine hrec (a.put oi.dst u) _ _ ?_ hK
          unfold Rel
          rw [hkeep, if_pos hkl]
          exact ⟨v, Act.put_comm a v u hn', h11 v w w' hnew hgw⟩
        · rw [if_neg hw] at hop
          unfold wpOp
          simp only [hoi]
          rw [if_neg (by rw [hwp]; exact hw)]
          refine hrec (a.put oi.dst undef) _ _ ?_ hop
          unfold Rel
          rw [hkeep, if_pos hkl]
          exact ⟨v, Act.put_comm a v undef hn', hnew⟩
      · rw [if_neg hkl] at hR
        obtain ⟨rfl, hR0⟩ := hR
        by_cases hw : Region.wanted oi (yielded ops b.tmps) = true
        · rw [if_pos hw] at hop
          obtain ⟨u, hu, hK⟩ := hop
          refine wpOp_of_gAt hoi hw (hu w (h0 w hR0)) fun w' hgw => ?_
          refine hrec (b.put oi.dst u) _ _ ?_ hK
          unfold Rel
          rw [hkeep, if_neg hkl]
          exact ⟨rfl, h00 w w' hR0 hgw⟩
        · rw [if_neg hw] at hop
          unfold wpOp
          simp only [hoi]
          rw [if_neg hw]
          refine hrec (b.put oi.dst undef) _ _ ?_ hop
          unfold Rel
          rw [hkeep, if_neg hkl]
          exact ⟨rfl, hR0⟩

/-- What is asked of the region, by the kernel. -/
def headB (ops : Array Oper) (n k : Nat) (d : Option Tmp) : Bool :=
  Region.lexTailB .any ops n && (List.range n).all fun j => j == k || match d, ops[j]? with | some t, some o => !(o.looksAt ops).contains t && o.dst != some t | _, _ => true

/-- THE LAW: operation number k is the one that changes memory, into slot d. -/
theorem wp_region_headX {id : Nat} {Q : Exit → Act → World → Prop} {a : Act} {w : World} {l : List Oper} (n k : Nat) (ok : Oper) (Rc R0 : World → Prop) (R1 : Value → World → Prop) (hm : P.follows .mixedOrders = true) (hB : headB l.toArray n k ok.dst = true) (hsl : ∀ cs b, ok.op ≠ .select cs b)
    (hk : ∀ o, l.toArray[k]? = some o → o = ok ∧ o.guard = none)
    (h00 : ∀ w w', R0 w → Gr w w' → R0 w') (h11 : ∀ v w w', R1 v w → Gr w w' → R1 v w') (h0 : ∀ w, R0 w → Rc w) (h1 : ∀ v w, R1 v w → Rc w) (hw : R0 w)
    (h' : ∀ K : Act → Prop, (∀ a', (∀ b w', (if k < n then ∃ v, b = a'.put ok.dst v ∧ R1 v w' else b = a' ∧ R0 w') → wpList P l.toArray Q (l.drop n) b w') → K a') → wpG P l.toArray Rc (Does P ok R0 R1) k K (l.take n) 0 a) : (Code.region id l.toArray true).wp P Q a w := by
  have h := h' (fun a' => ∀ b w', (if k < n then ∃ v, b = a'.put ok.dst v ∧ R1 v w' else b = a' ∧ R0 w') → wpList P l.toArray Q (l.drop n) b w') (fun a' x => x)
  simp only [headB, Region.lexTailB, Bool.and_eq_true, decide_eq_true_eq] at hB
  obtain ⟨⟨⟨⟨⟨hsel, hn⟩, hs⟩, hc⟩, hlex⟩, hap⟩ := hB
  have hn' : n < l.length := by simpa using hn
  have htl : (l.take n).length = n := by simp; omega
  have hdl : (l.drop n).length = l.toArray.size - n := by simp
  have inv0 : HeadInv .any l.toArray n (Array.replicate l.toArray.size false) :=
    ⟨by simp, fun j oj _ hl => (by rw [getD_replicate_false] at hl; cases hl), fun t _ ht => getD_in (by simpa using ht) (getD_replicate_false _ _)⟩
  have hkn : k < n → l.toArray[k]? = some ok ∧ ok.guard = none := fun h => by
    have hlt : k < l.toArray.size := by omega
    have e := Array.getElem?_eq_getElem hlt
    obtain ⟨h1, h2⟩ := hk _ e
    rw [← h1]
    exact ⟨e, h2⟩
  have H := wpH_lex (md := .any) (g := l.toArray.size - n) (k := k) (Pk := Does P ok R0 R1) (fun oi o a v ho hap2 hD => by
    rw [(hk o ho).1] at hap2
    exact Does.unput hsl (Oper.apart_spec hap2).1 hD) (fun o oj a v ho hap2 hD => by
    rw [(hk o ho).1] at hap2
    exact Does.put hsl (Oper.apart_spec hap2).2.2 (fun t h1 h2 => (Oper.apart_spec hap2).2.1 t h2 h1) hD) hsel hs hc hn (l.take n) 0 _ a (fun j hj => by
    have hj' : j < n := by rw [htl] at hj; exact hj
    simp [hj']) (by simpa using htl) inv0 (fun j => by rw [getD_replicate_false]; simp) (by simp) (by rw [htl]; exact hlex) h
  rw [htl] at H
  refine wp_region_any hm ?_
  have hw0 : Gr w { w with drawn := w.drawn + 1 } := (Below.refl _ _).drew
  have := wpAny_of_H (Q' := Q) (g := l.toArray.size - n) (ok := ok) (R0 := R0) (R1 := R1) hkn h00 h11 h0 h1 (Region.noSelect_spec hsel) (fun j o ho hj hjk t ht => by
      have := List.all_eq_true.1 hap j (List.mem_range.2 hj)
      simp only [ho, ht, Bool.or_eq_true, beq_iff_eq, hjk, false_or, Bool.and_eq_true] at this
      simpa using this) (fun listed a' b' w' hL hR => by
    have hq : wpList P l.toArray Q (l.drop n) b' w' := by
      refine hL.2 b' w' ?_
      have h2 := hR
      unfold Rel at h2
      rw [hL.1.2] at h2
      simpa using h2
    have := wpAny_of_seq (md := .any) (Q' := Q) (l.drop n) n listed b' w' (fun j => by simp [List.getElem?_drop]) (by rw [hdl]; exact hL.1.1) hq
    rwa [hdl] at this) n _ a a { w with drawn := w.drawn + 1 } (by simp) (by unfold Rel; rw [getD_replicate_false]; simp; exact h00 _ _ hw hw0) H
  rw [show n + (l.toArray.size - n) = l.toArray.size by omega] at this
  exact this

/-- The law, the operation read off the region. -/
theorem wp_region_head {id : Nat} {Q : Exit → Act → World → Prop} {a : Act} {w : World} {l : List Oper} {ok : Oper} (n k : Nat) (Rc R0 : World → Prop) (R1 : Value → World → Prop) (hm : P.follows .mixedOrders = true) (hk : l.toArray[k]? = some ok) (hB : (headB l.toArray n k ok.dst && decide (k < n) && ok.guard.isNone) = true) (hsl : ∀ cs b, ok.op ≠ .select cs b)
    (h00 : ∀ w w', R0 w → Gr w w' → R0 w') (h11 : ∀ v w w', R1 v w → Gr w w' → R1 v w') (h0 : ∀ w, R0 w → Rc w) (h1 : ∀ v w, R1 v w → Rc w) (hw : R0 w)
    (h' : ∀ K : Act → Prop, (∀ a', (∀ v w', R1 v w' → wpList P l.toArray Q (l.drop n) (a'.put ok.dst v) w') → K a') → wpG P l.toArray Rc (Does P ok R0 R1) k K (l.take n) 0 a) : (Code.region id l.toArray true).wp P Q a w := by
  simp only [Bool.and_eq_true, decide_eq_true_eq, Option.isNone_iff_eq_none] at hB
  refine wp_region_headX n k ok Rc R0 R1 hm hB.1.1 hsl (fun o ho => by rw [hk] at ho; cases ho; exact ⟨rfl, hB.2⟩) h00 h11 h0 h1 hw fun K hK => h' K fun a' ha => hK a' fun b w' hb => ?_
  rw [if_pos hB.1.2] at hb
  obtain ⟨v, rfl, hv⟩ := hb
  exact ha v w' hv

theorem wpG_any {Q : Act → Prop} {Pk' : Act → Prop} : ∀ (l : List Oper) (i : Nat) (a : Act), i + l.length ≤ k → wpG P ops Rc Pk k Q l i a → wpG P ops Rc Pk' k Q l i a
  | [], _, _, _, h => h
  | o :: l, i, a, hl, h => by
    simp only [List.length_cons] at hl
    have hik : i ≠ k := by omega
    unfold wpG at h ⊢
    rw [if_neg hik] at h ⊢
    split
    · rename_i hw
      rw [if_pos hw] at h
      obtain ⟨v, h1, h2⟩ := h
      exact ⟨v, h1, wpG_any l (i + 1) _ (by omega) h2⟩
    · rename_i hw
      rw [if_neg hw] at h
      exact wpG_any l (i + 1) _ (by omega) h
/-- No operation of the head changes memory. -/
theorem wp_region_head0 {id : Nat} {Q : Exit → Act → World → Prop} {a : Act} {w : World} {l : List Oper} (n : Nat) (Rc : World → Prop) (hm : P.follows .mixedOrders = true) (hB : headB l.toArray n l.length none = true)
    (h00 : ∀ w w', Rc w → Gr w w' → Rc w') (hw : Rc w)
    (h' : ∀ K : Act → Prop, (∀ a', (∀ w', Rc w' → wpList P l.toArray Q (l.drop n) a' w') → K a') → wpG P l.toArray Rc (fun _ => True) l.length K (l.take n) 0 a) : (Code.region id l.toArray true).wp P Q a w := by
  have hn : n < l.length := by
    simp only [headB, Region.lexTailB, Bool.and_eq_true, decide_eq_true_eq] at hB
    simpa using hB.1.1.1.1.2
  refine wp_region_headX n l.length (Oper.mk none (.move (.const undef)) 0 "" #[] none) Rc Rc (fun _ _ => False) hm hB (by intro _ _ h; cases h) (fun o ho => by simp at ho) h00 (fun _ _ _ h => h.elim) (fun _ h => h) (fun _ _ h => h.elim) hw fun K hK => ?_
  refine wpG_any (Pk := fun _ => True) _ _ _ (by simp; omega) ?_
  exact h' K fun a' ha => hK a' fun b w' hb => by
    rw [if_neg (by omega)] at hb
    obtain ⟨rfl, hb⟩ := hb
    exact ha w' hb

/-! ### the walk's steps -/
theorem wpG_k {Q : Act → Prop} {o : Oper} {rest : List Oper} {i : Nat} {a : Act} (hi : i = k) (hp : Pk a) (h : wpG P ops Rc Pk k Q rest (i + 1) a) : wpG P ops Rc Pk k Q (o :: rest) i a := by
  unfold wpG; rw [if_pos hi]; exact ⟨hp, h⟩
theorem wpG_skip {Q : Act → Prop} {o : Oper} {rest : List Oper} {i : Nat} {a : Act} (hi : i ≠ k) (hw : Region.wanted o (yielded ops a.tmps) = false) (h : wpG P ops Rc Pk k Q rest (i + 1) (a.put o.dst undef)) : wpG P ops Rc Pk k Q (o :: rest) i a := by
  unfold wpG; rw [if_neg hi, if_neg (by rw [hw]; decide)]; exact h
theorem wpG_want {Q : Act → Prop} {o : Oper} {rest : List Oper} {i : Nat} {a : Act} (hi : i ≠ k) (hw : Region.wanted o (yielded ops a.tmps) = true) (h : ∃ v, (∀ w, Rc w → gAt P o a w v) ∧ wpG P ops Rc Pk k Q rest (i + 1) (a.put o.dst v)) : wpG P ops Rc Pk k Q (o :: rest) i a := by
  unfold wpG; rw [if_neg hi, if_pos hw]; exact h
theorem wpG_nil {Q : Act → Prop} {i : Nat} {a : Act} (h : Q a) : wpG P ops Rc Pk k Q [] i a := h

theorem gAt_of_quiet {o : Oper} {a : Act} {w1 : World} {v : Value} (h : ∀ K : Act → Prop, (∀ a', a' = a.put o.dst v → K a') → o.quiet P a (fun w' => ∃ m, w' = spread w1 m) K) : gAt P o a w1 v := by
  obtain ⟨u, hu, he⟩ := h (fun a' => a' = a.put o.dst v) (fun a' h => h)
  have h1 := hu w1 ⟨⟨w1.drawn, #[]⟩, by simp [spread]⟩
  unfold gAt Oper.wp
  unfold Oper.quietAt at h1
  revert h1
  generalize (execOp a.eval o).run P w1 = r
  intro h1
  cases r with
  | ok x w' =>
    cases x with
    | value x => obtain ⟨rfl, rfl⟩ := h1; exact ⟨he, Below.refl _ _⟩
    | skip => obtain ⟨rfl, rfl⟩ := h1; exact ⟨he, Below.refl _ _⟩
    | enter f args =>
      obtain ⟨rfl, h1⟩ := h1
      refine Calls.mono h1 fun e w'' hw => ?_
      obtain ⟨rfl, m, rfl⟩ := hw
      exact ⟨he, gr_spread _ _⟩
    | _ => exact h1.elim
  | halt x w' => exact h1.elim
end Go.Proofs.YtogflfepkddbhaaDoor.Hd
namespace Go.Proofs.YtogflfepkddbhaaDoor
set_option linter.unusedVariables false
open Go.ChangeShapes Go.WideShapes Go.ChangeAt Go.RowKit
namespace Hd
variable {P : Program}
theorem wp_region_tail {id : Nat} {Q : Exit → Act → World → Prop} {a : Act} {w : World} {l : List Oper} (n : Nat) (hm : P.follows .mixedOrders = true) (hB : headB l.toArray n l.length none = true)
    (h' : ∀ K : Act → Prop, (∀ a', (∀ w', (∃ m, w' = spread w m) → wpList P l.toArray Q (l.drop n) a' w') → K a') → wpG P l.toArray (fun w' => ∃ m, w' = spread w m) (fun _ => True) l.length K (l.take n) 0 a) : (Code.region id l.toArray true).wp P Q a w :=
  wp_region_head0 n (fun w' => ∃ m, w' = spread w m) hm hB (by rintro _ _ ⟨m, rfl⟩ g; exact spread_gr g) ⟨⟨w.drawn, #[]⟩, by simp [spread]⟩ h'
theorem gr_of_spread {w w' : World} (h : ∃ m, w' = spread w m) : Gr w w' := by
  obtain ⟨m, rfl⟩ := h
  exact gr_spread _ _
end Hd
end Go.Proofs.YtogflfepkddbhaaDoor
namespace Go.Proofs.YtogflfepkddbhaaDoor
set_option linter.unusedVariables false
open Go.ChangeShapes Go.WideShapes Go.ChangeAt Go.RowKit
section
variable {P : Program} {w : World} {r : Reach} {base : Nat} {t : TypeId} {v : Value}
theorem open_cells {fs : Array Field} {us : List TypeId} {n : Nat} (ht : P.underlying t = some (.struct fs)) (hts : P.cellTypes P.depth t = some us) (hn : us.length = n) (hc : P.cellsOf t = n) (h : Value.okWide P w r base t v) :
    ∃ cs : Array Value, v = .agg cs ∧ cs.size = n ∧ ∀ (i : Nat) u k, us[i]? = some u → P.underlying u = some (.int k) → ∃ z, cs[i]? = some (.int k z) ∧ k.has z := by
  simp only [Value.okWide, ht] at h
  obtain ⟨cs, rfl, hs, ts, hts', -, hall⟩ := h
  rw [hts] at hts'
  obtain rfl := Option.some.inj hts'
  refine ⟨cs, rfl, by rw [hs, hc], fun i u k hu hk => ?_⟩
  have hlt : i < us.length := by
    rcases Nat.lt_or_ge i us.length with h | h
    · exact h
    · rw [List.getElem?_eq_none h] at hu; cases hu
  have hi : i < cs.size := by rw [hs, hc, ← hn]; exact hlt
  obtain ⟨u', hu', hok⟩ := hall i cs[i] (by simp [hi])
  rw [Nat.mod_eq_of_lt hlt, hu] at hu'
  obtain rfl := Option.some.inj hu'
  simp only [Cell.okWide, hk] at hok
  have hok' : Cell.ok P w r base u cs[i] := by
    cases hcs : cs[i] <;> simp_all
  simp only [Cell.ok, hk] at hok'
  cases hcs : cs[i] <;> simp only [hcs] at hok' <;> try exact hok'.elim
  obtain ⟨rfl, hb⟩ := hok'
  exact ⟨_, by simp [hi, hcs], hb⟩
theorem i64_has {z : Int} (h : IntKind.i64.has z) : -9223372036854775808 ≤ z ∧ z ≤ 9223372036854775807 := h
theorem u64_has {z : Int} (h : IntKind.u64.has z) : ∃ a : Nat, z = a ∧ a < 18446744073709551616 := by
  have h1 : 0 ≤ z := h.1
  have h2 : z ≤ 18446744073709551615 := h.2
  exact ⟨z.toNat, (Int.toNat_of_nonneg h1).symm, by omega⟩
theorem open_pt {fs : Array Field} {u : TypeId} (ht : P.underlying t = some (.struct fs)) (hts : P.cellTypes P.depth t = some [u, u]) (hc : P.cellsOf t = 2) (hu : P.underlying u = some (.int .i64)) (h : Value.okWide P w r base t v) :
    ∃ x y : Int, v = .agg #[.int .i64 x, .int .i64 y] ∧ (-9223372036854775808 ≤ x ∧ x ≤ 9223372036854775807) ∧ (-9223372036854775808 ≤ y ∧ y ≤ 9223372036854775807) := by
  obtain ⟨cs, rfl, hs, hi⟩ := open_cells (n := 2) ht hts rfl hc h
  obtain ⟨x, hx, bx⟩ := hi 0 u .i64 rfl hu
  obtain ⟨y, hy, by'⟩ := hi 1 u .i64 rfl hu
  refine ⟨x, y, ?_, i64_has bx, i64_has by'⟩
  congr 1
  apply Array.ext_getElem?
  intro i
  match i with
  | 0 => exact hx
  | 1 => exact hy
  | k + 2 => rw [Array.getElem?_eq_none (by omega), Array.getElem?_eq_none (by simp)]
theorem open_box {fs : Array Field} {u : TypeId} (ht : P.underlying t = some (.struct fs)) (hts : P.cellTypes P.depth t = some [u, u, u, u]) (hc : P.cellsOf t = 4) (hu : P.underlying u = some (.int .i64)) (h : Value.okWide P w r base t v) :
    ∃ x y z q : Int, v = .agg #[.int .i64 x, .int .i64 y, .int .i64 z, .int .i64 q] ∧ (-9223372036854775808 ≤ x ∧ x ≤ 9223372036854775807) ∧ (-9223372036854775808 ≤ y ∧ y ≤ 9223372036854775807) ∧ (-9223372036854775808 ≤ z ∧ z ≤ 9223372036854775807) ∧ (-9223372036854775808 ≤ q ∧ q ≤ 9223372036854775807) := by
  obtain ⟨cs, rfl, hs, hi⟩ := open_cells (n := 4) ht hts rfl hc h
  obtain ⟨x, hx, bx⟩ := hi 0 u .i64 rfl hu
  obtain ⟨y, hy, by'⟩ := hi 1 u .i64 rfl hu
  obtain ⟨z, hz, bz⟩ := hi 2 u .i64 rfl hu
  obtain ⟨q, hq, bq⟩ := hi 3 u .i64 rfl hu
  refine ⟨x, y, z, q, ?_, i64_has bx, i64_has by', i64_has bz, i64_has bq⟩
  congr 1
  apply Array.ext_getElem?
  intro i
  match i with
  | 0 => exact hx
  | 1 => exact hy
  | 2 => exact hz
  | 3 => exact hq
  | k + 4 => rw [Array.getElem?_eq_none (by omega), Array.getElem?_eq_none (by simp)]
theorem open_dist {fs : Array Field} {u : TypeId} (ht : P.underlying t = some (.struct fs)) (hts : P.cellTypes P.depth t = some [u, u, u]) (hc : P.cellsOf t = 3) (hu : P.underlying u = some (.int .u64)) (h : Value.okWide P w r base t v) :
    ∃ x y z : Nat, v = .agg #[.int .u64 x, .int .u64 y, .int .u64 z] ∧ x < 18446744073709551616 ∧ y < 18446744073709551616 ∧ z < 18446744073709551616 := by
  obtain ⟨cs, rfl, hs, hi⟩ := open_cells (n := 3) ht hts rfl hc h
  obtain ⟨x0, hx, bx⟩ := hi 0 u .u64 rfl hu
  obtain ⟨y0, hy, by'⟩ := hi 1 u .u64 rfl hu
  obtain ⟨z0, hz, bz⟩ := hi 2 u .u64 rfl hu
  obtain ⟨x, rfl, cx⟩ := u64_has bx
  obtain ⟨y, rfl, cy⟩ := u64_has by'
  obtain ⟨z, rfl, cz⟩ := u64_has bz
  refine ⟨x, y, z, ?_, cx, cy, cz⟩
  congr 1
  apply Array.ext_getElem?
  intro i
  match i with
  | 0 => exact hx
  | 1 => exact hy
  | 2 => exact hz
  | k + 3 => rw [Array.getElem?_eq_none (by omega), Array.getElem?_eq_none (by simp)]
theorem open_near {fs : Array Field} {u0 u : TypeId} (ht : P.underlying t = some (.struct fs)) (hts : P.cellTypes P.depth t = some [u0, u, u, u]) (hc : P.cellsOf t = 4) (hu0 : P.underlying u0 = some (.int .i64)) (hu : P.underlying u = some (.int .u64)) (h : Value.okWide P w r base t v) :
    ∃ (n : Int) (x y z : Nat), v = .agg #[.int .i64 n, .int .u64 x, .int .u64 y, .int .u64 z] ∧ (-9223372036854775808 ≤ n ∧ n ≤ 9223372036854775807) ∧ x < 18446744073709551616 ∧ y < 18446744073709551616 ∧ z < 18446744073709551616 := by
  obtain ⟨cs, rfl, hs, hi⟩ := open_cells (n := 4) ht hts rfl hc h
  obtain ⟨n, hn, bn⟩ := hi 0 u0 .i64 rfl hu0
  obtain ⟨x0, hx, bx⟩ := hi 1 u .u64 rfl hu
  obtain ⟨y0, hy, by'⟩ := hi 2 u .u64 rfl hu
  obtain ⟨z0, hz, bz⟩ := hi 3 u .u64 rfl hu
  obtain ⟨x, rfl, cx⟩ := u64_has bx
  obtain ⟨y, rfl, cy⟩ := u64_has by'
  obtain ⟨z, rfl, cz⟩ := u64_has bz
  refine ⟨n, x, y, z, ?_, i64_has bn, cx, cy, cz⟩
  congr 1
  apply Array.ext_getElem?
  intro i
  match i with
  | 0 => exact hn
  | 1 => exact hx
  | 2 => exact hy
  | 3 => exact hz
  | k + 4 => rw [Array.getElem?_eq_none (by omega), Array.getElem?_eq_none (by simp)]
end
end Go.Proofs.YtogflfepkddbhaaDoor
namespace Go.Proofs.YtogflfepkddbhaaDoor
set_option linter.unusedVariables false
open Go.ChangeShapes Go.WideShapes Go.ChangeAt Go.RowKit

theorem c_rCompare (ah al bh bl : Nat) (h1 : Wd ah) (h2 : Wd al) (h3 : Wd bh) (h4 : Wd bl) (w : World) :
    Calls Tryd.prog 61 #[.agg #[.int .u64 ah, .int .u64 al], .agg #[.int .u64 bh, .int .u64 bl]] w fun e w' => e = .returned (.int .i64 (cmpN (val ah al) (val bh bl))) ∧ Gr w w' := by
  rcases Nat.lt_trichotomy ah bh with h | h | h
  · have e : val ah al < val bh bl := by unfold val Wd at *; omega
    rw [cmpN_lt e]
    clear h1 h2 h3 h4 e
    have hd : decide (ah < bh) = true := decide_eq_true h
    go_enter Tryd.func61, Tryd.ntmps61
    go_wp2
    go_ret
    exact ⟨rfl, by go_grown⟩
  · subst h
    rcases Nat.lt_trichotomy al bl with g | g | g
    · have e : val ah al < val ah bl := by unfold val; omega
      rw [cmpN_lt e]
      clear h1 h2 h3 h4 e
      have hd : decide (al < bl) = true := decide_eq_true g
      go_enter Tryd.func61, Tryd.ntmps61
      go_wp2
      go_ret
      exact ⟨rfl, by go_grown⟩
    · subst g
      rw [cmpN_eq rfl]
      clear h1 h2 h3 h4
      go_enter Tryd.func61, Tryd.ntmps61
      go_wp2
      go_ret
      exact ⟨rfl, by go_grown⟩
    · have e : val ah bl < val ah al := by unfold val; omega
      rw [cmpN_gt e]
      clear h1 h2 h3 h4 e
      have hd : decide (al < bl) = false := decide_eq_false (by omega)
      have hn : ((al : Int) == (bl : Int)) = false := by simp; omega
      go_enter Tryd.func61, Tryd.ntmps61
      go_wp2
      go_ret
      exact ⟨rfl, by go_grown⟩
  · have e : val bh bl < val ah al := by unfold val Wd at *; omega
    rw [cmpN_gt e]
    clear h1 h2 h3 h4 e
    have hd : decide (ah < bh) = false := decide_eq_false (by omega)
    have hn : ((ah : Int) == (bh : Int)) = false := by simp; omega
    go_enter Tryd.func61, Tryd.ntmps61
    go_wp2
    go_ret
    exact ⟨rfl, by go_grown⟩
set_option maxHeartbeats 1000000 in
set_option maxRecDepth 100000 in
theorem radd_core (ah al bh bl s0 sh sl : Nat) (k : Int) (ov cy : Bool) (w : World)
    (e1 : IntKind.u64.wrap ((ah : Int) + (bh : Int)) = (s0 : Int)) (e2 : IntKind.u64.wrap ((al : Int) + (bl : Int)) = (sl : Int)) (hcy : decide (sl < al) = cy)
    (e3 : cy = true → IntKind.u64.wrap ((s0 : Int) + 1) = (sh : Int)) (e4 : cy = false → s0 = sh) (hk : decide (k < 0) = ov)
    (A1 : ∀ w, Calls Tryd.prog 61 #[.agg #[.int .u64 sh, .int .u64 sl], .agg #[.int .u64 ah, .int .u64 al]] w fun e w' => e = .returned (.int .i64 k) ∧ Gr w w') :
    Calls Tryd.prog 58 #[.agg #[.int .u64 ah, .int .u64 al], .agg #[.int .u64 bh, .int .u64 bl]] w fun e w' => e = .returned (.tuple #[.agg #[.int .u64 sh, .int .u64 sl], .bool ov]) ∧ Gr w w' := by
  have H1 := Lib.hid A1
  clear A1
  cases cy
  · obtain rfl := e4 rfl
    clear e3 e4
    go_enter Tryd.func58, Tryd.ntmps58
    go_wp2_with fail
    let Rc : World → Prop := fun w' => Gr w w' ∧ w'.cell? ⟨w.heap.size, 0, none⟩ = some (.int .u64 ah) ∧ w'.cell? ⟨w.heap.size, 1, none⟩ = some (.int .u64 al) ∧ w'.cell? ⟨w.heap.size + 1 + 1 + 1, 0, none⟩ = some (.int .u64 s0) ∧ w'.cell? ⟨w.heap.size + 1 + 1 + 1, 1, none⟩ = some (.int .u64 sl)
    refine Hd.wp_region_head 6 5 Rc (fun w' => Rc w' ∧ w'.cell? ⟨w.heap.size + 1 + 1, 0, none⟩ = some (.int .u64 0) ∧ w'.cell? ⟨w.heap.size + 1 + 1, 1, none⟩ = some (.int .u64 0) ∧ w'.frozen? ⟨w.heap.size + 1 + 1, 0, none⟩ = false ∧ w'.frozen? ⟨w.heap.size + 1 + 1, 1, none⟩ = false) (fun _ w' => Rc w' ∧ w'.cell? ⟨w.heap.size + 1 + 1, 0, none⟩ = some (.int .u64 s0) ∧ w'.cell? ⟨w.heap.size + 1 + 1, 1, none⟩ = some (.int .u64 sl)) (by kernel_rfl) (by simp only [List.getElem?_toArray, List.getElem?_cons_succ, List.getElem?_cons_zero] <;> rfl) (by kernel_rfl) (by intro _ _ h; cases h) ?_ ?_ ?_ ?_ ?_ ?_
    · intro a b h g
      exact ⟨⟨Gr.trans h.1.1 g, cell_gr g h.1.2.1, cell_gr g h.1.2.2.1, cell_gr g h.1.2.2.2.1, cell_gr g h.1.2.2.2.2⟩, cell_gr g h.2.1, cell_gr g h.2.2.1, frozen_gr g h.2.1 h.2.2.2.1, frozen_gr g h.2.2.1 h.2.2.2.2⟩
    · intro v a b h g
      exact ⟨⟨Gr.trans h.1.1 g, cell_gr g h.1.2.1, cell_gr g h.1.2.2.1, cell_gr g h.1.2.2.2.1, cell_gr g h.1.2.2.2.2⟩, cell_gr g h.2.1, cell_gr g h.2.2⟩
    · intro a h; exact h.1
    · intro v a h; exact h.1
    · refine ⟨⟨by go_grown, by go_simp, by go_simp, by go_simp, by go_simp⟩, by go_simp, by go_simp, by go_simp, by go_simp⟩
    · intro KQ hKQ
      repeat (first | (refine Hd.wpG_skip (by decide) rfl ?_; simp only [Act.put, List.setIfInBounds_toArray, List.set_cons_zero, List.set_cons_succ]) | (refine Hd.wpG_want (by decide) rfl ?_; apply Exists.intro; refine ⟨?_, ?_⟩; (· intro wx gx; (have gx0 := gx.2.1; have gx1 := gx.2.2.1; have gx2 := gx.2.2.2.1; have gx3 := gx.2.2.2.2; clear gx); all_goals (apply Hd.gAt_of_quiet; intro K hK; go_big_quiet_op; first | exact hK _ rfl | (apply Exists.intro; refine ⟨fun _ => ?_, ?_⟩; (· (go_at_call 61; with_reducible refine (H1.out _).mono ?_; rintro e w' ⟨rfl, hg⟩; exact ⟨rfl, spread_gr hg⟩)); exact hK _ rfl))); try simp only [Act.put, List.setIfInBounds_toArray, List.set_cons_zero, List.set_cons_succ]))
      refine Hd.wpG_k (by decide) ?_ ?_
      · rintro w' ⟨⟨gx, gx0, gx1, gx2, gx3⟩, gx4, gx5, gx6, gx7⟩
        unfold Oper.wp
        go_simp
        exact ⟨by go_grown, by go_simp, by go_simp, by go_simp, by go_simp⟩
      refine Hd.wpG_nil (hKQ _ ?_)
      clear hKQ KQ
      rintro v w' ⟨⟨gx, gx0, gx1, gx2, gx3⟩, gx4, gx5⟩
      clear Rc
      go_wp2_with fail
      refine bodyPost_ret (v := .tuple #[.agg #[.int .u64 s0, .int .u64 sl], .bool ov]) (by simp [results, Tryd.results58, go_sem, gx4, gx5]) rfl ⟨rfl, gx⟩
  · have e5 := e3 rfl
    clear e3 e4
    go_enter Tryd.func58, Tryd.ntmps58
    go_wp2_with fail
    let Rc : World → Prop := fun w' => Gr w w' ∧ w'.cell? ⟨w.heap.size, 0, none⟩ = some (.int .u64 ah) ∧ w'.cell? ⟨w.heap.size, 1, none⟩ = some (.int .u64 al) ∧ w'.cell? ⟨w.heap.size + 1 + 1 + 1, 0, none⟩ = some (.int .u64 sh) ∧ w'.cell? ⟨w.heap.size + 1 + 1 + 1, 1, none⟩ = some (.int .u64 sl)
    refine Hd.wp_region_head 6 5 Rc (fun w' => Rc w' ∧ w'.cell? ⟨w.heap.size + 1 + 1, 0, none⟩ = some (.int .u64 0) ∧ w'.cell? ⟨w.heap.size + 1 + 1, 1, none⟩ = some (.int .u64 0) ∧ w'.frozen? ⟨w.heap.size + 1 + 1, 0, none⟩ = false ∧ w'.frozen? ⟨w.heap.size + 1 + 1, 1, none⟩ = false) (fun _ w' => Rc w' ∧ w'.cell? ⟨w.heap.size + 1 + 1, 0, none⟩ = some (.int .u64 sh) ∧ w'.cell? ⟨w.heap.size + 1 + 1, 1, none⟩ = some (.int .u64 sl)) (by kernel_rfl) (by simp only [List.getElem?_toArray, List.getElem?_cons_succ, List.getElem?_cons_zero] <;> rfl) (by kernel_rfl) (by intro _ _ h; cases h) ?_ ?_ ?_ ?_ ?_ ?_
    · intro a b h g
      exact ⟨⟨Gr.trans h.1.1 g, cell_gr g h.1.2.1, cell_gr g h.1.2.2.1, cell_gr g h.1.2.2.2.1, cell_gr g h.1.2.2.2.2⟩, cell_gr g h.2.1, cell_gr g h.2.2.1, frozen_gr g h.2.1 h.2.2.2.1, frozen_gr g h.2.2.1 h.2.2.2.2⟩
    · intro v a b h g
      exact ⟨⟨Gr.trans h.1.1 g, cell_gr g h.1.2.1, cell_gr g h.1.2.2.1, cell_gr g h.1.2.2.2.1, cell_gr g h.1.2.2.2.2⟩, cell_gr g h.2.1, cell_gr g h.2.2⟩
    · intro a h; exact h.1
    · intro v a h; exact h.1
    · refine ⟨⟨by go_grown, by go_simp, by go_simp, by go_simp, by go_simp⟩, by go_simp, by go_simp, by go_simp, by go_simp⟩
    · intro KQ hKQ
      repeat (first | (refine Hd.wpG_skip (by decide) rfl ?_; simp only [Act.put, List.setIfInBounds_toArray, List.set_cons_zero, List.set_cons_succ]) | (refine Hd.wpG_want (by decide) rfl ?_; apply Exists.intro; refine ⟨?_, ?_⟩; (· intro wx gx; (have gx0 := gx.2.1; have gx1 := gx.2.2.1; have gx2 := gx.2.2.2.1; have gx3 := gx.2.2.2.2; clear gx); all_goals (apply Hd.gAt_of_quiet; intro K hK; go_big_quiet_op; first | exact hK _ rfl | (apply Exists.intro; refine ⟨fun _ => ?_, ?_⟩; (· (go_at_call 61; with_reducible refine (H1.out _).mono ?_; rintro e w' ⟨rfl, hg⟩; exact ⟨rfl, spread_gr hg⟩)); exact hK _ rfl))); try simp only [Act.put, List.setIfInBounds_toArray, List.set_cons_zero, List.set_cons_succ]))
      refine Hd.wpG_k (by decide) ?_ ?_
      · rintro w' ⟨⟨gx, gx0, gx1, gx2, gx3⟩, gx4, gx5, gx6, gx7⟩
        unfold Oper.wp
        go_simp
        exact ⟨by go_grown, by go_simp, by go_simp, by go_simp, by go_simp⟩
      refine Hd.wpG_nil (hKQ _ ?_)
      clear hKQ KQ
      rintro v w' ⟨⟨gx, gx0, gx1, gx2, gx3⟩, gx4, gx5⟩
      clear Rc
      go_wp2_with fail
      refine bodyPost_ret (v := .tuple #[.agg #[.int .u64 sh, .int .u64 sl], .bool ov]) (by simp [results, Tryd.results58, go_sem, gx4, gx5]) rfl ⟨rfl, gx⟩
end Go.Proofs.YtogflfepkddbhaaDoor
namespace Go.Proofs.YtogflfepkddbhaaDoor.Hm
set_option linter.unusedVariables false
set_option linter.unusedSimpArgs false
open Go.ChangeShapes Go.WideShapes Go.ChangeAt Go.RowKit Go.Proofs.YtogflfepkddbhaaDoor.Hd
variable {P : Program} {ops : Array Oper} {md : Region.Mode} {Rc : World → Prop} {Pk : Nat → Act → Prop} {sp : Nat → Bool} {n : Nat}

/-- Operation number i comes up. -/
def gOp (P : Program) (ops : Array Oper) (Rc : World → Prop) (Pk : Nat → Act → Prop) (sp : Nat → Bool) (i : Nat) (K : Act → Prop) (a : Act) : Prop :=
  if sp i = true then Pk i a ∧ K a else
  match ops[i]? with
  | none => K a
  | some o => if Region.wanted o (yielded ops a.tmps) = true then ∃ v, (∀ w, Rc w → gAt P o a w v) ∧ K (a.put o.dst v) else K (a.put o.dst undef)

theorem gOp_mono {i : Nat} {a : Act} {K K' : Act → Prop} (h : ∀ a, K a → K' a) (hh : gOp P ops Rc Pk sp i K a) : gOp P ops Rc Pk sp i K' a := by
  unfold gOp at *
  split
  · rename_i hi; rw [if_pos hi] at hh; exact ⟨hh.1, h _ hh.2⟩
  · rename_i hi
    rw [if_neg hi] at hh
    split
    · rename_i ho; simp only [ho] at hh; exact h _ hh
    · rename_i o ho
      simp only [ho] at hh
      split
      · rename_i hw; rw [if_pos hw] at hh; exact ⟨hh.choose, hh.choose_spec.1, h _ hh.choose_spec.2⟩
      · rename_i hw; rw [if_neg hw] at hh; exact h _ hh

theorem gOp_mono' {i : Nat} {o : Oper} {a : Act} {K K' : Act → Prop} (hik : ¬ sp i = true) (ho : ops[i]? = some o) (h : ∀ u, K (a.put o.dst u) → K' (a.put o.dst u)) (hh : gOp P ops Rc Pk sp i K a) : gOp P ops Rc Pk sp i K' a := by
  unfold gOp at *
  rw [if_neg hik] at *
  simp only [ho] at *
  split
  · rename_i hw; rw [if_pos hw] at hh; exact ⟨hh.choose, hh.choose_spec.1, h _ hh.choose_spec.2⟩
  · rename_i hw; rw [if_neg hw] at hh; exact h _ hh

/-- The text's order. -/
def wpG (P : Program) (ops : Array Oper) (Rc : World → Prop) (Pk : Nat → Act → Prop) (sp : Nat → Bool) (Q : Act → Prop) : List Oper → Nat → Act → Prop
  | [], _, a => Q a
  | o :: rest, i, a => if sp i = true then Pk i a ∧ wpG P ops Rc Pk sp Q rest (i + 1) a else
      if Region.wanted o (yielded ops a.tmps) = true then ∃ v, (∀ w, Rc w → gAt P o a w v) ∧ wpG P ops Rc Pk sp Q rest (i + 1) (a.put o.dst v) else wpG P ops Rc Pk sp Q rest (i + 1) (a.put o.dst undef)

def wpH (P : Program) (md : Region.Mode) (ops : Array Oper) (Rc : World → Prop) (Pk : Nat → Act → Prop) (sp : Nat → Bool) (n : Nat) (L : Array Bool → Act → Prop) : Nat → Array Bool → Act → Prop
  | 0, listed, a => L listed a
  | f + 1, listed, a => Region.ready md ops listed ≠ [] ∧ ∀ i ∈ Region.ready md ops listed, i < n ∧ gOp P ops Rc Pk sp i (wpH P md ops Rc Pk sp n L f (listed.setIfInBounds i true)) a

theorem gOp_of_GIn {i : Nat} {o : Oper} {v : Value} {a : Act} (hik : ¬ sp i = true) (hi : ops[i]? = some o) (hy : GIn P ops Rc o v a) {K : Act → Prop} (h : K (a.put o.dst v)) : gOp P ops Rc Pk sp i K a := by
  unfold gOp
  rw [if_neg hik]
  simp only [hi]
  rcases hy with ⟨hw, hv⟩ | ⟨hw, rfl⟩
  · rw [if_pos hw]; exact ⟨v, hv, h⟩
  · rw [if_neg (by rw [hw]; decide)]; exact h

theorem gIn_of_gOp {i : Nat} {o : Oper} {a : Act} {K : Act → Prop} (hik : ¬ sp i = true) (hi : ops[i]? = some o) (h : gOp P ops Rc Pk sp i K a) : ∃ v, GIn P ops Rc o v a ∧ K (a.put o.dst v) := by
  unfold gOp at h
  rw [if_neg hik] at h
  simp only [hi] at h
  by_cases hw : Region.wanted o (yielded ops a.tmps) = true
  · rw [if_pos hw] at h
    obtain ⟨v, h1, h2⟩ := h
    exact ⟨v, .inl ⟨hw, h1⟩, h2⟩
  · rw [if_neg hw] at h
    exact ⟨undef, .inr ⟨by simpa using hw, rfl⟩, h⟩

theorem gOp_put {j : Nat} {oi oj : Oper} {v : Value} (hjk : ¬ sp j = true) (hj : ops[j]? = some oj) (hap : oi.apart ops oj = true)
    (hsi : ∀ cs b, oi.op ≠ .select cs b) (hsj : ∀ cs b, oj.op ≠ .select cs b) {K : Act → Prop} {a : Act}
    (hy : GIn P ops Rc oi v a) (h : gOp P ops Rc Pk sp j K (a.put oi.dst v)) :
    gOp P ops Rc Pk sp j (fun a' => GIn P ops Rc oi v a' ∧ K (a'.put oi.dst v)) a := by
  obtain ⟨h1, h2, h3⟩ := Oper.apart_spec hap
  have h2' : ∀ d, oj.dst = some d → oi.dst ≠ some d := fun d hd hi => h2 d hi hd
  have keep : ∀ u, GIn P ops Rc oi v (a.put oj.dst u) := fun u => GIn.put (ops := ops) hsi h3 h2' hy
  unfold gOp at *
  rw [if_neg hjk] at *
  simp only [hj] at *
  rw [wanted_put oj a oi.dst v h1] at h
  split
  · rename_i hw
    rw [if_pos hw] at h
    obtain ⟨u, hu, hn⟩ := h
    refine ⟨u, fun w hw' => gAt_unput (ops := ops) hsj h1 h2 (fun x hx => put_cancel hx) (hu w hw'), keep u, by rw [← Act.put_comm a v u h2]; exact hn⟩
  · rename_i hw
    rw [if_neg hw] at h
    exact ⟨keep _, by rw [← Act.put_comm a v undef h2]; exact h⟩

/-- An operation that may come up may be taken first. -/
theorem wpH_first {i : Nat} {oi : Oper} {v : Value} {L : Array Bool → Act → Prop} (hP1 : ∀ (k : Nat) (oi ok : Oper) a v, sp k = true → ops[k]? = some ok → oi.apart ops ok = true → Pk k (a.put oi.dst v) → Pk k a) (hik : ¬ sp i = true) (hi : ops[i]? = some oi) (hsel : ∀ (j : Nat) (o : Oper) cs b, ops[j]? = some o → o.op ≠ .select cs b)
    (hs : Region.sinkB md ops n = true) (hc : Region.chainB md ops n = true) (hn : n < ops.size) (hin : i < n)
    (hdone : ∀ listed a, L listed a → ∀ j ∈ Region.ready md ops listed, n ≤ j) :
    ∀ (f : Nat) (listed : Array Bool) (a : Act), HeadInv md ops n listed →
      (∀ j oj, ops[j]? = some oj → j ≠ i → listed.getD j true = false → (∀ e ∈ oj.after, Region.binds md e = true → e.on ≠ i) → oi.apart ops oj = true) →
      i ∈ Region.ready md ops listed → GIn P ops Rc oi v a →
      wpH P md ops Rc Pk sp n L f (listed.setIfInBounds i true) (a.put oi.dst v) → wpH P md ops Rc Pk sp n L (f + 1) listed a := by
  intro f
  induction f with
  | zero =>
    intro listed a inv _ hr hy H
    have hun := (mem_ready.1 hr).1
    refine ⟨fun h => (by rw [h] at hr; cases hr), fun j hj => ?_⟩
    have hjn : j < n := by
      rcases Nat.lt_or_ge j n with h | h
      · exact h
      · exact absurd hj (tail_waits hs hc hn inv _ i rfl hin hun j h)
    refine ⟨hjn, ?_⟩
    by_cases hji : j = i
    · subst hji; exact gOp_of_GIn hik hi hy H
    · have := hdone _ _ H j (ready_mono hj hji)
      omega
  | succ f ih =>
    intro listed a inv hfree hr hy H
    have hun := (mem_ready.1 hr).1
    refine ⟨fun h => (by rw [h] at hr; cases hr), fun j hj => ?_⟩
    have hjn : j < n := by
      rcases Nat.lt_or_ge j n with h | h
      · exact h
      · exact absurd hj (tail_waits hs hc hn inv _ i rfl hin hun j h)
    refine ⟨hjn, ?_⟩
    by_cases hji : j = i
    · subst hji; exact gOp_of_GIn hik hi hy H
    · have h1 := (H.2 j (ready_mono hj hji)).2
      obtain ⟨hjun, oj, hoj, hall⟩ := mem_ready.1 hj
      have hnot : ∀ e ∈ oj.after, Region.binds md e = true → e.on ≠ i := fun e he hb heq => by
        have h1 := hall e he hb
        rw [heq, getD_both hun] at h1
        cases h1
      have hfree' : ∀ m ok, ops[m]? = some ok → m ≠ i → (listed.setIfInBounds j true).getD m true = false →
          (∀ e ∈ ok.after, Region.binds md e = true → e.on ≠ i) → oi.apart ops ok = true := fun m ok hm hmi hun hno => by
        refine hfree m ok hm hmi ?_ hno
        by_cases hjm : j = m
        · subst hjm; exact hjun
        · rw [getD_set_ne true hjm] at hun; exact hun
      have go : ∀ a', GIn P ops Rc oi v a' → wpH P md ops Rc Pk sp n L f ((listed.setIfInBounds i true).setIfInBounds j true) (a'.put oi.dst v) → wpH P md ops Rc Pk sp n L (f + 1) (listed.setIfInBounds j true) a' := fun a' hy' h3 => by
        refine ih (listed.setIfInBounds j true) a' (inv.set hj hjn) hfree' (ready_mono hr (Ne.symm hji)) hy' ?_
        rw [Array.setIfInBounds_comm _ _ hji]
        exact h3
      by_cases hjk : sp j = true
      · unfold gOp at h1 ⊢
        rw [if_pos hjk] at h1 ⊢
        exact ⟨hP1 j oi oj a v hjk hoj (hfree j oj hoj hji hjun hnot) h1.1, go a hy h1.2⟩
      · have h2 := gOp_put hjk hoj (hfree j oj hoj hji hjun hnot) (fun cs b => hsel i oi cs b hi) (fun cs b => hsel j oj cs b hoj) hy h1
        exact gOp_mono (fun a' h3 => go a' h3.1 h3.2) h2

/-- The operation that changes memory may be taken first. -/
theorem wpH_first_alloc {k : Nat} {ok : Oper} {L : Array Bool → Act → Prop} (hk : sp k = true) (hP2 : ∀ (oj : Oper) a v, ok.apart ops oj = true → Pk k a → Pk k (a.put oj.dst v)) (hs : Region.sinkB md ops n = true) (hc : Region.chainB md ops n = true) (hn : n < ops.size) (hkn : k < n)
    (hdone : ∀ listed a, L listed a → ∀ j ∈ Region.ready md ops listed, n ≤ j) :
    ∀ (f : Nat) (listed : Array Bool) (a : Act), HeadInv md ops n listed →
      (∀ j oj, ops[j]? = some oj → j ≠ k → listed.getD j true = false → (∀ e ∈ oj.after, Region.binds md e = true → e.on ≠ k) → ok.apart ops oj = true) →
      k ∈ Region.ready md ops listed → Pk k a →
      wpH P md ops Rc Pk sp n L f (listed.setIfInBounds k true) a → wpH P md ops Rc Pk sp n L (f + 1) listed a := by
  intro f
  induction f with
  | zero =>
    intro listed a inv _ hr hp H
    have hun := (mem_ready.1 hr).1
    refine ⟨fun h => (by rw [h] at hr; cases hr), fun j hj => ?_⟩
    have hjn : j < n := by
      rcases Nat.lt_or_ge j n with h | h
      · exact h
      · exact absurd hj (tail_waits hs hc hn inv _ k rfl hkn hun j h)
    refine ⟨hjn, ?_⟩
    by_cases hjk : j = k
    · subst hjk; unfold gOp; rw [if_pos hk]; exact ⟨hp, H⟩
    · have := hdone _ _ H j (ready_mono hj hjk)
      omega
  | succ f ih =>
    intro listed a inv hfree hr hp H
    have hun := (mem_ready.1 hr).1
    refine ⟨fun h => (by rw [h] at hr; cases hr), fun j hj => ?_⟩
    have hjn : j < n := by
      rcases Nat.lt_or_ge j n with h | h
      · exact h
      · exact absurd hj (tail_waits hs hc hn inv _ k rfl hkn hun j h)
    refine ⟨hjn, ?_⟩
    by_cases hjk : j = k
    · subst hjk; unfold gOp; rw [if_pos hk]; exact ⟨hp, H⟩
    · have h1 := (H.2 j (ready_mono hj hjk)).2
      obtain ⟨hjun, oj, hoj, hall⟩ := mem_ready.1 hj
      have hnot : ∀ e ∈ oj.after, Region.binds md e = true → e.on ≠ k := fun e he hb heq => by
        have h1 := hall e he hb
        rw [heq, getD_both hun] at h1
        cases h1
      have hfree' : ∀ m om, ops[m]? = some om → m ≠ k → (listed.setIfInBounds j true).getD m true = false →
          (∀ e ∈ om.after, Region.binds md e = true → e.on ≠ k) → ok.apart ops om = true := fun m om hm hmi hun hno => by
        refine hfree m om hm hmi ?_ hno
        by_cases hjm : j = m
        · subst hjm; exact hjun
        · rw [getD_set_ne true hjm] at hun; exact hun
      by_cases hsj : sp j = true
      · unfold gOp at h1 ⊢
        rw [if_pos hsj] at h1 ⊢
        refine ⟨h1.1, ih (listed.setIfInBounds j true) a (inv.set hj hjn) hfree' (ready_mono hr (Ne.symm hjk)) hp ?_⟩
        rw [Array.setIfInBounds_comm _ _ hjk]
        exact h1.2
      refine gOp_mono' hsj hoj (fun u h3 => ih (listed.setIfInBounds j true) _ (inv.set hj hjn) hfree' (ready_mono hr (Ne.symm hjk)) (hP2 oj a u (hfree j oj hoj hjk hjun hnot) hp) ?_) h1
      rw [Array.setIfInBounds_comm _ _ hjk]
      exact h3

theorem wpH_lex {g : Nat} {Lq : Act → Prop} (hP1 : ∀ (k : Nat) (oi ok : Oper) a v, sp k = true → ops[k]? = some ok → oi.apart ops ok = true → Pk k (a.put oi.dst v) → Pk k a) (hP2 : ∀ (k : Nat) (ok oj : Oper) a v, sp k = true → ops[k]? = some ok → ok.apart ops oj = true → Pk k a → Pk k (a.put oj.dst v)) (hsel : Region.noSelect ops = true) (hs : Region.sinkB md ops n = true) (hc : Region.chainB md ops n = true) (hn : n < ops.size) :
    ∀ (l : List Oper) (i : Nat) (listed : Array Bool) (a : Act), (∀ j, j < l.length → l[j]? = ops[i + j]?) → i + l.length = n → HeadInv md ops n listed →
    (∀ j, listed.getD j false = decide (j < i)) → listed.size = ops.size → Region.lexHead md ops g l.length i listed = true → wpG P ops Rc Pk sp Lq l i a →
    wpH P md ops Rc Pk sp n (fun listed' a' => (Region.seqB md ops g n listed' = true ∧ ∀ j, listed'.getD j false = decide (j < n)) ∧ Lq a') l.length listed a
  | [], i, listed, a, _, hk, _, hd, _, hB, h => by
    have : i = n := by simpa using hk
    subst this
    exact ⟨⟨by simpa [Region.lexHead] using hB, hd⟩, h⟩
  | o :: l, i, listed, a, hl, hk, inv, hd, hsz, hB, h => by
    have h0 : ops[i]? = some o := by simpa using (hl 0 (by simp)).symm
    simp only [List.length_cons, Region.lexHead, Bool.and_eq_true] at hB
    obtain ⟨⟨hr, hf⟩, hB'⟩ := hB
    have hkn : i < n := by simp only [List.length_cons] at hk; omega
    have hr' : i ∈ Region.ready md ops listed := by simpa using hr
    have next : ∀ a', wpG P ops Rc Pk sp Lq l (i + 1) a' → wpH P md ops Rc Pk sp n (fun listed' a' => (Region.seqB md ops g n listed' = true ∧ ∀ j, listed'.getD j false = decide (j < n)) ∧ Lq a') l.length (listed.setIfInBounds i true) a' := fun a' h' =>
      wpH_lex hP1 hP2 hsel hs hc hn l (i + 1) _ _ (fun j hj => by have := hl (j + 1) (by simp; omega); simpa [Nat.add_assoc, Nat.add_comm 1 j] using this) (by simp only [List.length_cons] at hk; omega) (inv.set hr' hkn) (fun j => by
        by_cases hji : i = j
        · subst hji
          simp [hsz, show i < ops.size by omega]
        · rw [getD_set_ne false hji, hd j]
          rw [decide_eq_decide]
          omega) (by simp [hsz]) hB' h'
    unfold wpG at h
    by_cases hik : sp i = true
    · rw [if_pos hik] at h
      exact wpH_first_alloc (ok := o) hik (fun oj a v => hP2 i o oj a v hik h0) hs hc hn hkn (fun listed' a' hL => seqB_ready hL.1.1) l.length listed a inv (Region.free_spec h0 hf) hr' h.1 (next a h.2)
    · rw [if_neg hik] at h
      have hst : gOp P ops Rc Pk sp i (wpG P ops Rc Pk sp Lq l (i + 1)) a := by unfold gOp; rw [if_neg hik]; simp only [h0]; exact h
      obtain ⟨v, hy, hK⟩ := gIn_of_gOp hik h0 hst
      exact wpH_first hP1 hik h0 (Region.noSelect_spec hsel) hs hc hn hkn (fun listed' a' hL => seqB_ready hL.1.1) l.length listed a inv (Region.free_spec h0 hf) hr' hy (next _ hK)


/-- THE LAW: 'Rel' says how a run's frame and world stand to the walk's frame. -/
theorem wpAny_of_H {g : Nat} {L : Array Bool → Act → Prop} {Q' : Exit → Act → World → Prop} (Rel : Array Bool → Act → Act → World → Prop)
    (hRc : ∀ l a b w, Rel l a b w → Rc w)
    (hquiet : ∀ (i : Nat) (o : Oper) l a b w w' u, i < n → ¬ sp i = true → ops[i]? = some o → Rel l a b w → Gr w w' → Rel (l.setIfInBounds i true) (a.put o.dst u) (b.put o.dst u) w')
    (hsame : ∀ (i : Nat) (o : Oper) l a b w, i < n → ¬ sp i = true → ops[i]? = some o → Rel l a b w → Region.wanted o (yielded ops b.tmps) = Region.wanted o (yielded ops a.tmps) ∧ ∀ v, gAt P o a w v → gAt P o b w v)
    (hspec : ∀ (i : Nat) (o : Oper) l a b w, i < n → sp i = true → ops[i]? = some o → i ∈ Region.ready md ops l → l.size = ops.size → Rel l a b w → Pk i a → Region.wanted o (yielded ops b.tmps) = true ∧ o.wp P b w (fun b' w' => Rel (l.setIfInBounds i true) a b' w') (fun _ _ _ => False))
    (hL : ∀ listed a b w, L listed a → Rel listed a b w → wpAny P md ops Q' g listed b w) :
    ∀ (f : Nat) (listed : Array Bool) (a b : Act) (w : World), listed.size = ops.size → Rel listed a b w → wpH P md ops Rc Pk sp n L f listed a → wpAny P md ops Q' (f + g) listed b w
  | 0, listed, a, b, w, _, hR, h => by rw [Nat.zero_add]; exact hL _ _ _ _ h hR
  | f + 1, listed, a, b, w, hsz, hR, h => by
    rw [show f + 1 + g = (f + g) + 1 by omega]
    refine ⟨fun h0 => absurd h0 h.1, fun i hi => ?_⟩
    obtain ⟨hin, hop⟩ := h.2 i hi
    obtain ⟨_, oi, hoi, _⟩ := mem_ready.1 hi
    have hsz' : (listed.setIfInBounds i true).size = ops.size := by simp [hsz]
    have hrec : ∀ a' b' w', Rel (listed.setIfInBounds i true) a' b' w' → wpH P md ops Rc Pk sp n L f (listed.setIfInBounds i true) a' → wpAny P md ops Q' (f + g) (listed.setIfInBounds i true) b' w' := fun a' b' w' hr hh => wpAny_of_H Rel hRc hquiet hsame hspec hL f _ a' b' w' hsz' hr hh
    unfold gOp at hop
    by_cases hik : sp i = true
    · rw [if_pos hik] at hop
      obtain ⟨hw, hd⟩ := hspec i oi listed a b w hin hik hoi hi hsz hR hop.1
      unfold wpOp
      simp only [hoi]
      rw [if_pos hw]
      refine .inl ?_
      unfold Oper.wp at hd ⊢
      exact upon_map (a := b) (b := b) (fun u w' hu => hrec a _ _ hu hop.2) (fun dd w' hu => hrec a _ _ hu hop.2) hd
    · rw [if_neg hik] at hop
      simp only [hoi] at hop
      obtain ⟨hwe, hg⟩ := hsame i oi listed a b w hin hik hoi hR
      by_cases hw : Region.wanted oi (yielded ops a.tmps) = true
      · rw [if_pos hw] at hop
        obtain ⟨u, hu, hK⟩ := hop
        exact wpOp_of_gAt hoi (by rw [hwe]; exact hw) (hg u (hu w (hRc _ _ _ _ hR))) fun w' hgw => hrec (a.put oi.dst u) _ _ (hquiet i oi listed a b w w' u hin hik hoi hR hgw) hK
      · rw [if_neg hw] at hop
        unfold wpOp
        simp only [hoi]
        rw [if_neg (by rw [hwe]; exact hw)]
        exact hrec (a.put oi.dst undef) _ _ (hquiet i oi listed a b w w undef hin hik hoi hR (Below.refl _ _)) hop

/-! ### one block made and filled -/
theorem cell_of_heap {w : World} {b : Nat} {zs : Array Value} {T : TypeId} (h : w.heap[b]? = some (.cells zs T)) (i : Nat) : w.cell? ⟨b, i, none⟩ = zs[i]? := by simp [World.cell?, h]
theorem frozen_of_heap {w : World} {b : Nat} {zs : Array Value} {T : TypeId} (h : w.heap[b]? = some (.cells zs T)) (i : Nat) : w.frozen? ⟨b, i, none⟩ = false := by simp [World.frozen?, h]
theorem heap_set_same {w : World} {b i : Nat} {zs : Array Value} {T : TypeId} {v : Value} (h : w.heap[b]? = some (.cells zs T)) : (w.setCell ⟨b, i, none⟩ v).heap[b]? = some (.cells (zs.setIfInBounds i v) T) := by
  simp only [World.setCell, Array.getElem?_modify, h, Option.map]
  simp

/-- The made block is filled: in a frame that knows it. -/
def Fills (P : Program) (ok : Oper) (w0 : World) (d : Tmp) (zs zs' : Array Value) (T : TypeId) (a : Act) : Prop :=
  ∀ B w, Gr w0 w → w0.heap.size ≤ B → w.heap[B]? = some (.cells zs T) → ok.wp P (a.put (some d) (.pointer (some ⟨B, 0, none⟩))) w (fun a' w' => a' = a.put (some d) (.pointer (some ⟨B, 0, none⟩)) ∧ Gr w0 w' ∧ w'.heap[B]? = some (.cells zs' T)) (fun _ _ _ => False)

theorem Fills.put {ok : Oper} {w0 : World} {d : Tmp} {zs zs' : Array Value} {T : TypeId} {a : Act} {x : Value} {e : Option Tmp} (hn : ok.dst = none) (hs : ∀ cs b, ok.op ≠ .select cs b) (hl : ∀ t, e = some t → t ∉ ok.looksAt ops) (hd : e ≠ some d)
    (h : Fills P ok w0 d zs zs' T a) : Fills P ok w0 d zs zs' T (a.put e x) := by
  intro B w g hB hw
  have h := h B w g hB hw
  have hc : (a.put e x).put (some d) (.pointer (some ⟨B, 0, none⟩)) = (a.put (some d) (.pointer (some ⟨B, 0, none⟩))).put e x := (by rw [Act.put_comm a x _ (fun t ht hd' => hd (ht.trans hd'.symm))])
  unfold Oper.wp at *
  rw [hc, execOp_put (ops := ops) ok hs _ e x hl]
  refine upon_map (fun u w' hu => ?_) (fun dd w' hu => ?_) h
  · rw [hn] at hu ⊢
    exact ⟨rfl, hu.2⟩
  · rw [hn] at hu
    exact (no_defer (x := none) (v := undef) hu.1).elim
theorem Fills.unput {ok : Oper} {w0 : World} {d : Tmp} {zs zs' : Array Value} {T : TypeId} {a : Act} {x : Value} {e : Option Tmp} (hn : ok.dst = none) (hs : ∀ cs b, ok.op ≠ .select cs b) (hl : ∀ t, e = some t → t ∉ ok.looksAt ops) (hd : e ≠ some d)
    (h : Fills P ok w0 d zs zs' T (a.put e x)) : Fills P ok w0 d zs zs' T a := by
  intro B w g hB hw
  have h := h B w g hB hw
  have hc : (a.put e x).put (some d) (.pointer (some ⟨B, 0, none⟩)) = (a.put (some d) (.pointer (some ⟨B, 0, none⟩))).put e x := (by rw [Act.put_comm a x _ (fun t ht hd' => hd (ht.trans hd'.symm))])
  unfold Oper.wp at *
  rw [hc, execOp_put (ops := ops) ok hs _ e x hl] at h
  refine upon_map (fun u w' hu => ?_) (fun dd w' hu => ?_) h
  · rw [hn] at hu ⊢
    exact ⟨rfl, hu.2⟩
  · rw [hn] at hu
    exact (no_defer (x := none) (v := undef) hu.1).elim

/-- What is asked of the region, by the kernel: operation k1 makes the block into slot d, k2 fills it. -/
def madeB (ops : Array Oper) (n k1 k2 : Nat) (d : Tmp) : Bool :=
  Region.lexTailB .any ops n && decide (k1 < k2) && decide (k2 < n) &&
  (match ops[k1]? with | some o => o.dst == some d && o.guard.isNone | none => false) &&
  (match ops[k2]? with | some o => o.dst == none && o.guard.isNone && o.after.any (fun e => e.on == k1 && Region.binds .any e) && (o.looksAt ops).contains d | none => false) &&
  (List.range n).all fun j => j == k1 || j == k2 || match ops[j]? with | some o => !(o.looksAt ops).contains d && o.dst != some d | none => true

def RelM (k1 k2 : Nat) (d : Tmp) (w0 : World) (zs zs' : Array Value) (T : TypeId) (l : Array Bool) (a b : Act) (w : World) : Prop :=
  Gr w0 w ∧ ((l.getD k1 false = true ∧ ∃ B, b = a.put (some d) (.pointer (some ⟨B, 0, none⟩)) ∧ w0.heap.size ≤ B ∧ w.heap[B]? = some (.cells (if l.getD k2 false = true then zs' else zs) T)) ∨ (l.getD k1 false = false ∧ l.getD k2 false = false ∧ b = a))

theorem heap_gr {a b : World} {k : Nat} {o : Obj} (g : Gr a b) (h : a.heap[k]? = some o) : b.heap[k]? = some o := by
  have hb : k < a.heap.size := (Array.getElem?_eq_some_iff.1 h).1
  rw [g.block k hb]; exact h

/-- THE LAW. -/
theorem wp_region_made {id : Nat} {Q : Exit → Act → World → Prop} {a : Act} {w : World} {l : List Oper} {o1 o2 : Oper} (n k1 k2 : Nat) (d : Tmp) (zs zs' : Array Value) (T : TypeId) (hm : P.follows .mixedOrders = true) (hk1 : l.toArray[k1]? = some o1) (hk2 : l.toArray[k2]? = some o2) (hB : madeB l.toArray n k1 k2 d = true)
    (hal : ∀ b w', o1.wp P b w' (fun b' w'' => b' = b.put (some d) (.pointer (some ⟨w'.heap.size, 0, none⟩)) ∧ w'' = w'.alloc (.cells zs T)) (fun _ _ _ => False))
    (h' : ∀ K : Act → Prop, (∀ a', (∀ B w', Gr w w' → w.heap.size ≤ B → w'.heap[B]? = some (.cells zs' T) → wpList P l.toArray Q (l.drop n) (a'.put (some d) (.pointer (some ⟨B, 0, none⟩))) w') → K a') →
      wpG P l.toArray (Gr w) (fun i => if i = k2 then Fills P o2 w d zs zs' T else fun _ => True) (fun i => i == k1 || i == k2) K (l.take n) 0 a) : (Code.region id l.toArray true).wp P Q a w := by
  have h := h' (fun a' => ∀ B w', Gr w w' → w.heap.size ≤ B → w'.heap[B]? = some (.cells zs' T) → wpList P l.toArray Q (l.drop n) (a'.put (some d) (.pointer (some ⟨B, 0, none⟩))) w') (fun a' x => x)
  simp only [madeB, Region.lexTailB, Bool.and_eq_true, decide_eq_true_eq, hk1, hk2, beq_iff_eq, Option.isNone_iff_eq_none] at hB
  obtain ⟨⟨⟨⟨⟨⟨⟨⟨⟨hsel, hn⟩, hs⟩, hc⟩, hlex⟩, h12⟩, h2n⟩, hd1, hg1'⟩, ⟨⟨hd2, hg2⟩, hwait⟩, hlook⟩, hap⟩ := hB
  obtain ⟨e0, he0, he1⟩ : ∃ e, e ∈ o2.after ∧ (e.on = k1 ∧ Region.binds .any e = true) := by
    rw [Array.any_eq_true'] at hwait
    obtain ⟨e, h1, h2⟩ := hwait
    exact ⟨e, h1, by simpa using h2⟩
  have hn' : n < l.length := by simpa using hn
  have htl : (l.take n).length = n := by simp; omega
  have hdl : (l.drop n).length = l.toArray.size - n := by simp
  have inv0 : HeadInv .any l.toArray n (Array.replicate l.toArray.size false) :=
    ⟨by simp, fun j oj _ hl => (by rw [getD_replicate_false] at hl; cases hl), fun t _ ht => getD_in (by simpa using ht) (getD_replicate_false _ _)⟩
  have hs2 : ∀ cs b, o2.op ≠ .select cs b := fun cs b => Region.noSelect_spec hsel k2 o2 cs b hk2
  have sp2 : ∀ i, ((i == k1 || i == k2) = true) → i = k1 ∨ i = k2 := fun i hi => by simpa using hi
  have nsp : ∀ i, ¬ ((i == k1 || i == k2) = true) → i ≠ k1 ∧ i ≠ k2 := fun i hi => by simpa using hi
  have hdm : d ∈ o2.looksAt l.toArray := by simpa using hlook
  have n12 : ¬ k1 = k2 := by omega
  have H := wpH_lex (md := .any) (g := l.toArray.size - n) (Pk := fun i => if i = k2 then Fills P o2 w d zs zs' T else fun _ => True) (sp := fun i => i == k1 || i == k2) (fun k oi ok a v hk ho hap2 hD => by
    rcases sp2 k hk with rfl | rfl
    · rw [if_neg n12]; trivial
    · rw [if_pos rfl] at hD ⊢
      rw [hk2] at ho
      cases ho
      exact Fills.unput hd2 hs2 (Oper.apart_spec hap2).1 (fun hh => (Oper.apart_spec hap2).1 d hh hdm) hD) (fun k ok oj a v hk ho hap2 hD => by
    rcases sp2 k hk with rfl | rfl
    · rw [if_neg n12]; trivial
    · rw [if_pos rfl] at hD ⊢
      rw [hk2] at ho
      cases ho
      exact Fills.put hd2 hs2 (Oper.apart_spec hap2).2.2 (fun hh => (Oper.apart_spec hap2).2.2 d hh hdm) hD) hsel hs hc hn (l.take n) 0 _ a (fun j hj => by
    have hj' : j < n := by rw [htl] at hj; exact hj
    simp [hj']) (by simpa using htl) inv0 (fun j => by rw [getD_replicate_false]; simp) (by simp) (by rw [htl]; exact hlex) h
  rw [htl] at H
  refine wp_region_any hm ?_
  have hw0 : Gr w { w with drawn := w.drawn + 1 } := (Below.refl _ _).drew
  have hap' : ∀ i o, l.toArray[i]? = some o → i < n → ¬ ((i == k1 || i == k2) = true) → (∀ t, some d = some t → t ∉ o.looksAt l.toArray) ∧ (∀ t, some d = some t → o.dst ≠ some t) := fun i o ho hin hnsp => by
    have := List.all_eq_true.1 hap i (List.mem_range.2 hin)
    obtain ⟨h1, h2⟩ := nsp i hnsp
    simp only [ho, Bool.or_eq_true, beq_iff_eq, h1, h2, false_or, Bool.and_eq_true] at this
    simpa using this
  have := wpAny_of_H (Q' := Q) (g := l.toArray.size - n) (RelM k1 k2 d w zs zs' T) (fun _ _ _ _ h => h.1) ?_ ?_ ?_ (fun listed a' b' w' hL hR => by
    obtain ⟨hg, hr⟩ := hR
    have e1 := hL.1.2 k1
    have e2 := hL.1.2 k2
    rw [decide_eq_true (by omega)] at e1 e2
    have hq : wpList P l.toArray Q (l.drop n) b' w' := by
      rcases hr with ⟨-, B, rfl, hB1, hB2⟩ | ⟨h1, -⟩
      · rw [if_pos e2] at hB2
        exact hL.2 B w' hg hB1 hB2
      · rw [e1] at h1; cases h1
    have := wpAny_of_seq (md := .any) (Q' := Q) (l.drop n) n listed b' w' (fun j => by simp [List.getElem?_drop]) (by rw [hdl]; exact hL.1.1) hq
    rwa [hdl] at this) n _ a a { w with drawn := w.drawn + 1 } (by simp) ⟨hw0, .inr ⟨getD_replicate_false _ _, getD_replicate_false _ _, rfl⟩⟩ H
  · rw [show n + (l.toArray.size - n) = l.toArray.size by omega] at this
    exact this
  · intro i o l' a b w1 w2 u hin hnsp ho hR hg
    obtain ⟨h1, h2⟩ := nsp i hnsp
    obtain ⟨hg1, hr⟩ := hR
    refine ⟨Gr.trans hg1 hg, ?_⟩
    rw [getD_set_ne false h1, getD_set_ne false h2]
    rcases hr with ⟨h3, B, rfl, hB1, hB2⟩ | ⟨h3, h4, rfl⟩
    · exact .inl ⟨h3, B, Act.put_comm a _ u (hap' i o ho hin hnsp).2, hB1, heap_gr hg hB2⟩
    · exact .inr ⟨h3, h4, rfl⟩
  · intro i o l' a b w1 hin hnsp ho hR
    obtain ⟨hl', hn''⟩ := hap' i o ho hin hnsp
    obtain ⟨hg1, hr⟩ := hR
    rcases hr with ⟨h3, B, rfl, hB1, hB2⟩ | ⟨h3, h4, rfl⟩
    · exact ⟨wanted_put o a (some d) _ hl', fun v hv => gAt_put (ops := l.toArray) (Region.noSelect_spec hsel i o · · ho) hl' hn'' hv⟩
    · exact ⟨rfl, fun v hv => hv⟩
  · intro i o l' a b w1 hin hsp ho hrd hsz hR hP
    obtain ⟨hun, o', ho', hall⟩ := mem_ready.1 hrd
    have hil : i < l.length := by simpa using (Array.getElem?_eq_some_iff.1 ho).1
    obtain ⟨hg1, hr⟩ := hR
    rcases sp2 i hsp with rfl | rfl
    · rw [hk1] at ho
      cases ho
      have hf : l'.getD i false = false := getD_both hun
      obtain ⟨h4, rfl⟩ : l'.getD k2 false = false ∧ b = a := by
        rcases hr with ⟨h3, -⟩ | ⟨-, h4, h5⟩
        · rw [hf] at h3; cases h3
        · exact ⟨h4, h5⟩
      refine ⟨by unfold Region.wanted; rw [hg1'], ?_⟩
      have ha := hal b w1
      unfold Oper.wp at ha ⊢
      refine upon_map (a := b) (b := b) (fun u w' hu => ?_) (fun dd w' hu => ?_) ha
      · rw [hu.1, hu.2]
        refine ⟨hg1.alloc hg1.size _, .inl ⟨by simp [hsz, hil], w1.heap.size, rfl, hg1.size, ?_⟩⟩
        rw [getD_set_ne false n12, h4, if_neg (by decide)]
        exact (MapKept.heap_alloc w1 _).1
      · exact (no_defer (hd1 ▸ hu.1)).elim
    · rw [hk2] at ho ho'
      cases ho
      cases ho'
      have h3 : l'.getD k1 false = true := by
        have := hall e0 he0 he1.2
        rwa [he1.1] at this
      have hf : l'.getD i false = false := getD_both hun
      obtain ⟨B, rfl, hB1, hB2⟩ : ∃ B, b = a.put (some d) (.pointer (some ⟨B, 0, none⟩)) ∧ w.heap.size ≤ B ∧ w1.heap[B]? = some (.cells zs T) := by
        rcases hr with ⟨-, B, h4, h5, h6⟩ | ⟨h4, -⟩
        · rw [hf, if_neg (by decide)] at h6
          exact ⟨B, h4, h5, h6⟩
        · rw [h3] at h4; cases h4
      refine ⟨by unfold Region.wanted; rw [hg2], ?_⟩
      rw [if_pos rfl] at hP
      have ha := hP B w1 hg1 hB1 hB2
      unfold Oper.wp at ha ⊢
      refine upon_map (fun u w' hu => ?_) (fun dd w' hu => ?_) ha
      · rw [hu.1]
        refine ⟨hu.2.1, .inl ⟨by rw [getD_set_ne false (Ne.symm n12)]; exact h3, B, rfl, hB1, ?_⟩⟩
        rw [if_pos (by simp [hsz, hil])]
        exact hu.2.2
      · rw [hd2] at hu
        exact (no_defer (x := none) (v := undef) hu.1).elim

@[go_sem] theorem cell?_spread2 (w : World) (m m' : More) (a : Addr) (h : (w.cell? a).isSome = true) : (spread (spread w m) m').cell? a = w.cell? a := by
  obtain ⟨u, hu⟩ := Option.isSome_iff_exists.1 h
  have h1 := (gr_spread w m).cell (World.block_lt_of_cell? w a hu)
  have h2 := cell?_spread (spread w m) m' a (by rw [h1]; exact h)
  rw [h2, h1]

/-! ### the walk's steps -/
theorem wpG_sp {Q : Act → Prop} {o : Oper} {rest : List Oper} {i : Nat} {a : Act} (hi : sp i = true) (hp : Pk i a) (h : wpG P ops Rc Pk sp Q rest (i + 1) a) : wpG P ops Rc Pk sp Q (o :: rest) i a := by
  unfold wpG; rw [if_pos hi]; exact ⟨hp, h⟩
theorem wpG_skip {Q : Act → Prop} {o : Oper} {rest : List Oper} {i : Nat} {a : Act} (hi : ¬ sp i = true) (hw : Region.wanted o (yielded ops a.tmps) = false) (h : wpG P ops Rc Pk sp Q rest (i + 1) (a.put o.dst undef)) : wpG P ops Rc Pk sp Q (o :: rest) i a := by
  unfold wpG; rw [if_neg hi, if_neg (by rw [hw]; decide)]; exact h
theorem wpG_want {Q : Act → Prop} {o : Oper} {rest : List Oper} {i : Nat} {a : Act} (hi : ¬ sp i = true) (hw : Region.wanted o (yielded ops a.tmps) = true) (h : ∃ v, (∀ w, Rc w → gAt P o a w v) ∧ wpG P ops Rc Pk sp Q rest (i + 1) (a.put o.dst v)) : wpG P ops Rc Pk sp Q (o :: rest) i a := by
  unfold wpG; rw [if_neg hi, if_pos hw]; exact h
theorem wpG_nil {Q : Act → Prop} {i : Nat} {a : Act} (h : Q a) : wpG P ops Rc Pk sp Q [] i a := h
end Go.Proofs.YtogflfepkddbhaaDoor.Hm
namespace Go.Proofs.YtogflfepkddbhaaDoor
set_option linter.unusedVariables false
open Go.ChangeShapes Go.WideShapes Go.ChangeAt Go.RowKit

theorem c_rAdd (ah al bh bl : Nat) (h1 : Wd ah) (h2 : Wd al) (h3 : Wd bh) (h4 : Wd bl) (w : World) :
    Calls Tryd.prog 58 #[.agg #[.int .u64 ah, .int .u64 al], .agg #[.int .u64 bh, .int .u64 bl]] w fun e w' => e = .returned (.tuple #[.agg #[.int .u64 (((val ah al + val bh bl) / 18446744073709551616 % 18446744073709551616 : Nat) : Int), .int .u64 (((val ah al + val bh bl) % 18446744073709551616 : Nat) : Int)], .bool (decide (18446744073709551616 ≤ (val ah al + val bh bl) / 18446744073709551616))]) ∧ Gr w w' := by
  obtain ⟨s0, hs0⟩ : ∃ s, s = (ah + bh) % 18446744073709551616 := ⟨_, rfl⟩
  obtain ⟨sl, hsl⟩ : ∃ s, s = (val ah al + val bh bl) % 18446744073709551616 := ⟨_, rfl⟩
  obtain ⟨sh, hsh⟩ : ∃ s, s = (val ah al + val bh bl) / 18446744073709551616 % 18446744073709551616 := ⟨_, rfl⟩
  have hsl' : sl = (al + bl) % 18446744073709551616 := by rw [hsl]; unfold val; omega
  have w3 : Wd sh := by rw [hsh]; exact wd_mod _
  have w4 : Wd sl := by rw [hsl]; exact wd_mod _
  have hv : val sh sl = (val ah al + val bh bl) % 340282366920938463463374607431768211456 := by rw [hsh, hsl]; generalize val ah al + val bh bl = X; unfold val; omega
  have hA := val_lt h1 h2
  have hB := val_lt h3 h4
  have ho : decide (cmpN (val sh sl) (val ah al) < 0) = decide (18446744073709551616 ≤ (val ah al + val bh bl) / 18446744073709551616) := by
    rw [cmp_lt0, decide_eq_decide, hv]; omega
  rw [← hsl, ← hsh, ← ho]
  refine radd_core ah al bh bl s0 sh sl _ _ (decide (sl < al)) w ?_ ?_ rfl ?_ ?_ rfl (fun w => c_rCompare sh sl ah al w3 w4 h1 h2 w)
  · rw [IntKind.wrap_u64]; unfold Wd at *; omega
  · rw [IntKind.wrap_u64]; unfold Wd at *; omega
  · intro hc
    have hc := of_decide_eq_true hc
    rw [IntKind.wrap_u64]; unfold Wd val at *; omega
  · intro hc
    have hc := of_decide_eq_false hc
    unfold Wd val at *; omega

end Go.Proofs.YtogflfepkddbhaaDoor
