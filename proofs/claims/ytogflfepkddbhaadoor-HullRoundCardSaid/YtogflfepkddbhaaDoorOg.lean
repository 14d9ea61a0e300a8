/- a region that draws its order: every operation leaves a value of which something is said, in whatever order they come -/
import Derived.Test.YtogflfepkddbhaaDoorOe
import Derived.StillTail
namespace Go.Proofs.YtogflfepkddbhaaDoor.Og
set_option linter.unusedVariables false
set_option linter.unusedSimpArgs false
open Go.ChangeShapes Go.WideShapes Go.ChangeAt Go.RowKit
section
variable {P : Program} {ops : Array Oper}

/-- The first n operations' slots hold us. -/
def putN (ops : Array Oper) (us : Nat → Value) : Nat → Act → Act
  | 0, a => a
  | n + 1, a => match ops[n]? with
    | some o => (putN ops us n a).put o.dst (us n)
    | none => putN ops us n a
def upd (us : Nat → Value) (i : Nat) (v : Value) : Nat → Value := fun j => if j = i then v else us j
/-- No two of the first n have one slot; none waits for a later one; none has a guard. -/
def relH (ops : Array Oper) (n : Nat) (use : Nat → List Nat) : Bool :=
  (List.range n).all fun i => match ops[i]? with
    | some o => o.guard.isNone && (o.after.all fun e => !Region.binds .any e || decide (e.on < i)) && ((List.range i).all fun j => match ops[j]? with | some o' => o.dst == none || !(o'.dst == o.dst) | none => true) && (use i).all fun j => decide (j < n) && Region.waitsFor .any ops i j
    | none => false
def relT (ops : Array Oper) (n : Nat) : Bool :=
  decide (n < ops.size) && Region.sinkB .any ops n && Region.chainB .any ops n && Region.seqB .any ops (ops.size - n) n (Array.ofFn (n := ops.size) fun i => decide (i.val < n))
theorem put_over (a : Act) (d : Option Tmp) (u v : Value) : (a.put d u).put d v = a.put d v := by
  cases d with
  | none => rfl
  | some t =>
    show ({ a with tmps := (a.tmps.setIfInBounds t u).setIfInBounds t v } : Act) = { a with tmps := a.tmps.setIfInBounds t v }
    congr 1
    apply Array.ext'
    simp
theorem putN_put {n i : Nat} {o : Oper} (hi : i < n) (ho : ops[i]? = some o) (hd : ∀ j, j < n → j ≠ i → ∀ o', ops[j]? = some o' → o.dst = none ∨ o'.dst ≠ o.dst) (us : Nat → Value) (a : Act) (v : Value) : (putN ops us n a).put o.dst v = putN ops (upd us i v) n a := by
  have low : ∀ m, m ≤ i → putN ops us m a = putN ops (upd us i v) m a := fun m => by
    induction m with
    | zero => intro _; rfl
    | succ m ih =>
      intro hm
      unfold putN
      rw [ih (by omega)]
      have : upd us i v m = us m := by unfold upd; rw [if_neg (by omega)]
      rw [this]
  have key : ∀ m, i < m → m ≤ n → (putN ops us m a).put o.dst v = putN ops (upd us i v) m a := fun m => by
    induction m with
    | zero => intro h _; omega
    | succ m ih =>
      intro h1 h2
      by_cases c : m = i
      · subst c
        unfold putN
        rw [ho]
        simp only
        rw [low m (Nat.le_refl _)]
        have : upd us m v m = v := by unfold upd; rw [if_pos rfl]
        rw [this, put_over]
      · have ihm := ih (by omega) (by omega)
        unfold putN
        have : upd us i v m = us m := by unfold upd; rw [if_neg c]
        rw [this]
        cases hm : ops[m]? with
        | none => exact ihm
        | some o' =>
          simp only
          rw [← ihm]
          refine Act.put_comm _ _ _ fun d hd1 hd2 => ?_
          rcases hd m (by omega) c o' hm with h | h
          · rw [h] at hd2; cases hd2
          · exact h (hd1.trans hd2.symm)
  exact key n hi (Nat.le_refl _)
theorem op_of_list {o : Oper} {a : Act} {w : World} {F : Value → World → Prop} (hg : o.guard = none) (h : ∀ QE : Exit → Act → World → Prop, (∀ a' w', (∃ v, a' = a.put o.dst v ∧ F v w') → QE .normal a' w') → wpList P ops QE [o] a w) : o.wp P a w (fun a' w' => ∃ v, a' = a.put o.dst v ∧ F v w') (fun _ _ _ => False) := by
  have hw : Region.wanted o (yielded ops a.tmps) = true := by simp [Region.wanted, hg]
  have h1 := h (Oe.exitN fun a' w' => ∃ v, a' = a.put o.dst v ∧ F v w') (fun a' w' hh => hh)
  unfold wpList at h1
  rw [if_pos hw] at h1
  rcases h1 with h1 | ⟨_, _, _, h1⟩
  · unfold Oper.wp at *
    refine Oe.upon_exitN (fun u w' hu => hu) (fun d w' hu => ?_) h1
    obtain ⟨v, e, _⟩ := hu
    exact (Hd.no_defer e).elim
  · exact h1.elim
theorem relH_spec {n : Nat} {use : Nat → List Nat} (h : relH ops n use = true) :
    ∀ i, i < n → ∃ o, ops[i]? = some o ∧ o.guard = none ∧ (∀ e ∈ o.after, Region.binds .any e = true → e.on < i) ∧ (∀ j, j < i → ∀ o', ops[j]? = some o' → o.dst = none ∨ o'.dst ≠ o.dst) ∧ ∀ j ∈ use i, j < n ∧ Region.waitsFor .any ops i j = true := by
  intro i hi
  have := List.all_eq_true.1 h i (List.mem_range.2 hi)
  cases ho : ops[i]? with
  | none => rw [ho] at this; cases this
  | some o =>
    rw [ho] at this
    simp only [Bool.and_eq_true, Option.isNone_iff_eq_none] at this
    obtain ⟨⟨⟨g, ha⟩, hd⟩, hu⟩ := this
    refine ⟨o, rfl, g, fun e he hb => ?_, fun j hj o' ho' => ?_, fun j hj => ?_⟩
    · have := Array.all_eq_true'.1 ha e he
      rw [hb] at this
      simpa using this
    · have := List.all_eq_true.1 hd j (List.mem_range.2 hj)
      rw [ho'] at this
      simp only [Bool.or_eq_true, beq_iff_eq, Bool.not_eq_true', beq_eq_false_iff_ne] at this
      exact this
    · have := List.all_eq_true.1 hu j hj
      simpa using this
/-- Is j's value wanted behind i: it is kept, or one uses it that i does not wait for? -/
def needB (ops : Array Oper) (n : Nat) (use : Nat → List Nat) (keep : Nat → Bool) (i j : Nat) : Bool := !(j == i) && !Region.waitsFor .any ops j i && (keep j || (List.range n).any fun k => !(k == i) && (use k).contains j && !Region.waitsFor .any ops i k)
/-- What is said of an operation's value, while it is wanted. -/
def Holds (ops : Array Oper) (S : World → World → Prop) (V : Nat → (Nat → Value) → World → Prop) (use : Nat → List Nat) (keep : Nat → Bool) (n : Nat) (a0 : Act) (w0 : World) (listed : Array Bool) (a : Act) (w : World) : Prop :=
  S w0 w ∧ ∃ us : Nat → Value, a = putN ops us n a0 ∧ ∀ i, i < n → listed.getD i false = true → (keep i = true ∨ ∃ k, k < n ∧ i ∈ use k ∧ listed.getD k true = false) → V i us w
theorem rel_core {S : World → World → Prop} {T : Nat → World → World → Prop} {V : Nat → (Nat → Value) → World → Prop} {use : Nat → List Nat} {keep : Nat → Bool} {n : Nat} {a0 : Act} {w0 : World} {Q : Exit → Act → World → Prop} (hn : n ≤ ops.size) (hB : relH ops n use = true)
    (hhead : ∀ listed i0, HeadInv .any ops n listed → i0 < n → listed.getD i0 true = false → ∀ i ∈ Region.ready .any ops listed, i < n)
    (htr : ∀ a b c, S a b → S b c → S a c) (hTS : ∀ i a b, i < n → T i a b → S a b)
    (hst : ∀ i j us v w w', i < n → j < n → needB ops n use keep i j = true → S w0 w → V j us w → T i w w' → V j (upd us i v) w')
    (hop : ∀ i, i < n → ∀ o, ops[i]? = some o → ∀ (us : Nat → Value) (w : World), S w0 w → (∀ j ∈ use i, V j us w) → ∀ QE : Exit → Act → World → Prop, (∀ a' w', (∃ v, a' = (putN ops us n a0).put o.dst v ∧ T i w w' ∧ V i (upd us i v) w') → QE .normal a' w') → wpList P ops QE [o] (putN ops us n a0) w)
    (htail : ∀ (us : Nat → Value) (w : World), S w0 w → (∀ j, j < n → keep j = true → V j us w) → wpAny P .any ops Q (ops.size - n) (Array.ofFn (n := ops.size) fun i => decide (i.val < n)) (putN ops us n a0) w) :
    ∀ (f : Nat) (rem : List Nat) (listed : Array Bool) (a : Act) (w : World), rem.length = f → rem.Nodup → (∀ i, i ∈ rem ↔ (i < n ∧ listed.getD i true = false)) → HeadInv .any ops n listed → Holds ops S V use keep n a0 w0 listed a w → wpAny P .any ops Q (f + (ops.size - n)) listed a w
  | 0, rem, listed, a, w, hf, hnd, hrem, inv, hH => by
    obtain rfl : rem = [] := List.eq_nil_of_length_eq_zero hf
    obtain ⟨hS, us, rfl, hV⟩ := hH
    have hall : ∀ i, i < n → listed.getD i false = true := fun i hi => by
      have h1 : ¬ listed.getD i true = false := fun h => by simpa using (hrem i).2 ⟨hi, h⟩
      have hlt : i < listed.size := by
        rcases Nat.lt_or_ge i listed.size with h | h
        · exact h
        · rw [inv.size] at h; omega
      simp only [Array.getD, hlt, dite_true] at h1 ⊢
      simpa using h1
    have e : listed = Array.ofFn (n := ops.size) fun i => decide (i.val < n) := by
      apply Array.ext
      · rw [inv.size]; simp
      · intro i h1 h2
        rw [Array.getElem_ofFn]
        by_cases c : i < n
        · have := hall i c
          simp only [Array.getD, h1, dite_true] at this
          simpa [c] using this
        · have := inv.tail i (by omega) (by rw [← inv.size]; exact h1)
          simp only [Array.getD, h1, dite_true] at this
          simpa [c] using this
    rw [Nat.zero_add, e]
    exact htail us w hS fun j hj hk => hV j hj (hall j hj) (.inl hk)
  | f + 1, rem, listed, a, w, hf, hnd, hrem, inv, hH => by
    have hops := relH_spec hB
    rw [show f + 1 + (ops.size - n) = (f + (ops.size - n)) + 1 by omega]
    have hne : ∃ i, i ∈ rem := by
      cases rem with
      | nil => simp at hf
      | cons x r => exact ⟨x, by simp⟩
    obtain ⟨i0, hi0⟩ := hne
    have hi0' := (hrem i0).1 hi0
    refine ⟨fun h0 => ?_, fun i hi => ?_⟩
    · exfalso
      have hex : ∀ k, ∀ i, i ≤ k → i ∈ rem → ∃ j, j ∈ Region.ready .any ops listed := fun k => by
        induction k with
        | zero =>
          intro i hik hir
          obtain rfl : i = 0 := by omega
          obtain ⟨o, ho, -, ha, -, -⟩ := hops 0 ((hrem 0).1 hir).1
          exact ⟨0, mem_ready.2 ⟨((hrem 0).1 hir).2, o, ho, fun e he hb => absurd (ha e he hb) (by omega)⟩⟩
        | succ k ih =>
          intro i hik hir
          obtain ⟨hin, hil⟩ := (hrem i).1 hir
          obtain ⟨o, ho, -, ha, -, -⟩ := hops i hin
          by_cases c : ∃ j, j < i ∧ j ∈ rem
          · obtain ⟨j, hj, hjr⟩ := c
            exact ih j (by omega) hjr
          · refine ⟨i, mem_ready.2 ⟨hil, o, ho, fun e he hb => ?_⟩⟩
            have hlt := ha e he hb
            have h1 : ¬ listed.getD e.on true = false := fun h => c ⟨e.on, hlt, (hrem e.on).2 ⟨by omega, h⟩⟩
            have hsz : e.on < listed.size := by rw [inv.size]; omega
            simp only [Array.getD, hsz, dite_true] at h1 ⊢
            simpa using h1
      obtain ⟨j, hj⟩ := hex i0 i0 (Nat.le_refl _) hi0
      rw [h0] at hj; cases hj
    · have hin : i < n := by
        exact hhead listed i0 inv hi0'.1 hi0'.2 i hi
      obtain ⟨hil, o', ho', hall⟩ := mem_ready.1 hi
      obtain ⟨o, ho, hg, ha, hd, hu⟩ := hops i hin
      rw [Option.some.inj (ho'.symm.trans ho)] at hall
      obtain ⟨hS, us, rfl, hV⟩ := hH
      have hdist : ∀ j, j < n → j ≠ i → ∀ o', ops[j]? = some o' → o.dst = none ∨ o'.dst ≠ o.dst := fun j hj hji o' ho' => by
        rcases Nat.lt_or_gt_of_ne hji with h | h
        · exact hd j h o' ho'
        · obtain ⟨oj, hoj, -, -, hdj, -⟩ := hops j hj
          rw [ho'] at hoj
          cases hoj
          rcases hdj i h o ho with k | k
          · by_cases c : o.dst = none
            · exact .inl c
            · exact .inr (fun e => c (by rw [← e, k]))
          · exact .inr (fun e => k e.symm)
      have hw : Region.wanted o (yielded ops (putN ops us n a0).tmps) = true := by simp [Region.wanted, hg]
      unfold wpOp
      simp only [ho]
      rw [if_pos hw]
      refine .inl ?_
      have h1 := op_of_list (P := P) (ops := ops) (F := fun v w' => T i w w' ∧ V i (upd us i v) w') hg (hop i hin o ho us w hS fun j hju => by
        obtain ⟨hj, hwt⟩ := hu j hju
        obtain ⟨oj, hoj, e, he, hb, hon⟩ := Region.waitsFor_spec hwt
        rw [ho] at hoj
        cases hoj
        exact hV j hj (by rw [← hon]; exact hall e he hb) (.inr ⟨i, hin, hju, hil⟩))
      have hmem : i ∈ rem := (hrem i).2 ⟨hin, hil⟩
      have hsz0 : ∀ j, j < n → j < listed.size := fun j hj => by rw [inv.size]; omega
      have hrec : ∀ v w', T i w w' → V i (upd us i v) w' → wpAny P .any ops Q (f + (ops.size - n)) (listed.setIfInBounds i true) ((putN ops us n a0).put o.dst v) w' := fun v w' hT' hV' => by
        refine rel_core hn hB hhead htr hTS hst hop htail f (rem.erase i) _ _ w' (by rw [List.length_erase_of_mem hmem]; omega) (hnd.erase i) (fun j => ?_) (inv.set hi hin) ⟨htr _ _ _ hS (hTS i _ _ hin hT'), upd us i v, putN_put hin ho hdist us a0 v, fun j hj hl hneed => ?_⟩
        · rw [hnd.mem_erase_iff, hrem j]
          by_cases c : j = i
          · subst c
            constructor
            · rintro ⟨h, -⟩; exact absurd rfl h
            · rintro ⟨-, h⟩
              have hsz : j < listed.size := by rw [inv.size]; omega
              simp [Array.getD, hsz] at h
          · rw [getD_set_ne true (fun e => c e.symm)]
            exact ⟨fun h => h.2, fun h => ⟨c, h⟩⟩
        · by_cases c : j = i
          · rw [c]; exact hV'
          · rw [getD_set_ne false (fun e => c e.symm)] at hl
            have hneed' : keep j = true ∨ ∃ k, k < n ∧ k ≠ i ∧ j ∈ use k ∧ listed.getD k true = false := by
              rcases hneed with h | ⟨k, hk, hkw, hkl⟩
              · exact .inl h
              · by_cases ck : k = i
                · subst ck
                  have hsz := hsz0 k hk
                  simp [Array.getD, hsz] at hkl
                · rw [getD_set_ne true (fun e => ck e.symm)] at hkl
                  exact .inr ⟨k, hk, ck, hkw, hkl⟩
            have hVj := hV j hj hl (hneed'.imp id fun ⟨k, h1, _, h2, h3⟩ => ⟨k, h1, h2, h3⟩)
            have hnw : Region.waitsFor .any ops j i = false := by
              rw [← Bool.not_eq_true]
              intro hwt
              obtain ⟨oj, hoj, e, he, hb, hon⟩ := Region.waitsFor_spec hwt
              have := inv.closed j oj hoj hl e he hb
              rw [hon] at this
              have hsz := hsz0 i hin
              simp only [Array.getD, hsz, dite_true] at this hil
              rw [this] at hil; cases hil
            have hnB : needB ops n use keep i j = true := by
              unfold needB
              rw [hnw]
              have e : (j == i) = false := by simpa using c
              rw [e]
              simp only [Bool.not_false, Bool.true_and, Bool.or_eq_true]
              rcases hneed' with h | ⟨k, h1, h2, h3, h4⟩
              · exact .inl h
              · refine .inr (List.any_eq_true.2 ⟨k, List.mem_range.2 h1, ?_⟩)
                have e2 : (k == i) = false := by simpa using h2
                have e3 : (use k).contains j = true := by simpa using h3
                have e4 : Region.waitsFor .any ops i k = false := by
                  rw [← Bool.not_eq_true]
                  intro hwt
                  obtain ⟨oj, hoj, e, he, hb, hon⟩ := Region.waitsFor_spec hwt
                  rw [ho] at hoj
                  cases hoj
                  have := hall e he hb
                  rw [hon] at this
                  have hsz := hsz0 k h1
                  simp only [Array.getD, hsz, dite_true] at this h4
                  rw [this] at h4; cases h4
                rw [e2, e3, e4]; rfl
            exact hst i j us v _ _ hin hj hnB hS hVj hT'
      unfold Oper.wp at h1 ⊢
      refine Hd.upon_map (a := putN ops us n a0) (b := putN ops us n a0) (fun u w' hu => ?_) (fun dd w' hu => ?_) h1
      · obtain ⟨v, e, hh⟩ := hu
        rw [e]; exact hrec v w' hh.1 hh.2
      · obtain ⟨v, e, hh⟩ := hu
        exact (Hd.no_defer e).elim
theorem putN_self (n : Nat) (a0 : Act) : ∃ us : Nat → Value, putN ops us n a0 = a0 := by
  have key : ∀ m, m ≤ n → ∀ us : Nat → Value, (∀ i, i < m → ∀ o, ops[i]? = some o → a0.put o.dst (us i) = a0) → putN ops us m a0 = a0 := fun m => by
    induction m with
    | zero => intro _ _ _; rfl
    | succ m ih =>
      intro hm us h
      unfold putN
      rw [ih (by omega) us (fun i hi o ho => h i (by omega) o ho)]
      cases ho : ops[m]? with
      | none => rfl
      | some o => exact h m (by omega) o ho
  refine ⟨fun i => match ops[i]? with | some o => (match o.dst with | some t => a0.tmps.getD t undef | none => undef) | none => undef, key n (Nat.le_refl _) _ fun i hi o ho => ?_⟩
  simp only [ho]
  cases hd : o.dst with
  | none => rfl
  | some t =>
    show ({ a0 with tmps := a0.tmps.setIfInBounds t (a0.tmps.getD t undef) } : Act) = a0
    have : a0.tmps.setIfInBounds t (a0.tmps.getD t undef) = a0.tmps := by
      apply Array.ext
      · simp
      · intro j h1 h2
        rw [Array.getElem_setIfInBounds]
        split
        · rename_i e; subst e; simp [Array.getD, h2]
        · rfl
    rw [this]
/-- THE LAW, of a whole region. S: how the world may go on; T i: how operation i turns it; V i: what is said of its value, while an operation that uses it is to come, or it is to be kept. -/
theorem wp_region_all {id : Nat} {Q : Exit → Act → World → Prop} {a0 : Act} {w0 : World} {l : List Oper} (n : Nat) (S : World → World → Prop) (T : Nat → World → World → Prop) (V : Nat → (Nat → Value) → World → Prop) (use : Nat → List Nat) (keep : Nat → Bool) (hm : P.follows .mixedOrders = true) (hn : l.toArray.size = n) (hB : relH l.toArray n use = true)
    (hdrew : S w0 { w0 with drawn := w0.drawn + 1 }) (htr : ∀ a b c, S a b → S b c → S a c) (hTS : ∀ i a b, i < n → T i a b → S a b)
    (hst : ∀ i j us v w w', i < n → j < n → needB l.toArray n use keep i j = true → S w0 w → V j us w → T i w w' → V j (upd us i v) w')
    (hop : ∀ i, i < n → ∀ o, l.toArray[i]? = some o → ∀ (us : Nat → Value) (w : World), S w0 w → (∀ j ∈ use i, V j us w) → ∀ QE : Exit → Act → World → Prop, (∀ a' w', (∃ v, a' = (putN l.toArray us n a0).put o.dst v ∧ T i w w' ∧ V i (upd us i v) w') → QE .normal a' w') → wpList P l.toArray QE [o] (putN l.toArray us n a0) w)
    (hend : ∀ (us : Nat → Value) (w : World), S w0 w → (∀ j, j < n → keep j = true → V j us w) → Q .normal (putN l.toArray us n a0) w) : (Code.region id l.toArray true).wp P Q a0 w0 := by
  refine wp_region_any hm ?_
  have inv0 : HeadInv .any l.toArray n (Array.replicate l.toArray.size false) :=
    ⟨by simp, fun j oj _ hl => (by rw [getD_replicate_false] at hl; cases hl), fun t ht ht' => absurd ht' (by omega)⟩
  obtain ⟨us0, hus0⟩ := putN_self (ops := l.toArray) n a0
  have := rel_core (P := P) (Q := Q) (a0 := a0) (w0 := w0) (by omega) hB (fun listed i0 inv h1 h2 i hi => by
    obtain ⟨-, o, ho, -⟩ := mem_ready.1 hi
    have := (Array.getElem?_eq_some_iff.1 ho).1
    omega) htr hTS hst hop (fun us w hS hV => by
    rw [hn, Nat.sub_self]
    refine ⟨?_, hend us w hS hV⟩
    apply List.eq_nil_iff_forall_not_mem.2
    intro i hi
    obtain ⟨h1, o, ho, -⟩ := mem_ready.1 hi
    have h2 := (Array.getElem?_eq_some_iff.1 ho).1
    simp [Array.getD, h2] at h1) n (List.range n) (Array.replicate l.toArray.size false) a0 { w0 with drawn := w0.drawn + 1 } (by simp) List.nodup_range (fun i => by
      rw [List.mem_range]
      constructor
      · intro h; exact ⟨h, getD_in (by simp; simp at hn; omega) (getD_replicate_false _ _)⟩
      · intro h; exact h.1) inv0 ⟨hdrew, us0, hus0.symm, fun i _ hl => (by rw [getD_replicate_false] at hl; cases hl)⟩
  rwa [show n + (l.toArray.size - n) = l.toArray.size by omega] at this
/-- The law, with a tail that comes in the text's order behind the first n operations. -/
theorem wp_region_head {id : Nat} {Q : Exit → Act → World → Prop} {a0 : Act} {w0 : World} {l : List Oper} (n : Nat) (S : World → World → Prop) (T : Nat → World → World → Prop) (V : Nat → (Nat → Value) → World → Prop) (use : Nat → List Nat) (keep : Nat → Bool) (hm : P.follows .mixedOrders = true) (hT : relT l.toArray n = true) (hB : relH l.toArray n use = true)
    (hdrew : S w0 { w0 with drawn := w0.drawn + 1 }) (htr : ∀ a b c, S a b → S b c → S a c) (hTS : ∀ i a b, i < n → T i a b → S a b)
    (hst : ∀ i j us v w w', i < n → j < n → needB l.toArray n use keep i j = true → S w0 w → V j us w → T i w w' → V j (upd us i v) w')
    (hop : ∀ i, i < n → ∀ o, l.toArray[i]? = some o → ∀ (us : Nat → Value) (w : World), S w0 w → (∀ j ∈ use i, V j us w) → ∀ QE : Exit → Act → World → Prop, (∀ a' w', (∃ v, a' = (putN l.toArray us n a0).put o.dst v ∧ T i w w' ∧ V i (upd us i v) w') → QE .normal a' w') → wpList P l.toArray QE [o] (putN l.toArray us n a0) w)
    (htail : ∀ (us : Nat → Value) (w : World), S w0 w → (∀ j, j < n → keep j = true → V j us w) → wpList P l.toArray Q (l.drop n) (putN l.toArray us n a0) w) : (Code.region id l.toArray true).wp P Q a0 w0 := by
  refine wp_region_any hm ?_
  simp only [relT, Bool.and_eq_true, decide_eq_true_eq] at hT
  obtain ⟨⟨⟨hn, hsink⟩, hchain⟩, hseq⟩ := hT
  have hdl : (l.drop n).length = l.toArray.size - n := by simp
  have inv0 : HeadInv .any l.toArray n (Array.replicate l.toArray.size false) :=
    ⟨by simp, fun j oj _ hl => (by rw [getD_replicate_false] at hl; cases hl), fun t _ ht => getD_in (by simpa using ht) (getD_replicate_false _ _)⟩
  obtain ⟨us0, hus0⟩ := putN_self (ops := l.toArray) n a0
  have := rel_core (P := P) (Q := Q) (a0 := a0) (w0 := w0) (Nat.le_of_lt hn) hB (fun listed i0 inv h1 h2 i hi => by
    rcases Nat.lt_or_ge i n with h | h
    · exact h
    · exact absurd hi (tail_waits hsink hchain hn inv _ i0 rfl h1 h2 i h)) htr hTS hst hop (fun us w hS hV => by
    have := wpAny_of_seq (md := .any) (Q' := Q) (l.drop n) n (Array.ofFn (n := l.toArray.size) fun i => decide (i.val < n)) (putN l.toArray us n a0) w (fun j => by simp [List.getElem?_drop]) (by rw [hdl]; exact hseq) (htail us w hS hV)
    rwa [hdl] at this) n (List.range n) (Array.replicate l.toArray.size false) a0 { w0 with drawn := w0.drawn + 1 } (by simp) List.nodup_range (fun i => by
      rw [List.mem_range]
      constructor
      · intro h; exact ⟨h, getD_in (by simp; simp at hn; omega) (getD_replicate_false _ _)⟩
      · intro h; exact h.1) inv0 ⟨hdrew, us0, hus0.symm, fun i _ hl => (by rw [getD_replicate_false] at hl; cases hl)⟩
  rwa [show n + (l.toArray.size - n) = l.toArray.size by omega] at this
end
end Go.Proofs.YtogflfepkddbhaaDoor.Og
