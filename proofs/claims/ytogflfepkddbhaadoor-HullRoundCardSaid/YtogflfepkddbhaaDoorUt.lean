/- a region that draws its order, and makes one block in its head -/
import Derived.Test.YtogflfepkddbhaaDoorH
namespace Go.Proofs.YtogflfepkddbhaaDoor.Hm
set_option linter.unusedVariables false
set_option linter.unusedSimpArgs false
open Go.ChangeShapes Go.WideShapes Go.ChangeAt Go.RowKit Go.Proofs.YtogflfepkddbhaaDoor.Hd
variable {P : Program} {ops : Array Oper} {md : Region.Mode} {n : Nat}

/-- Operation k1 makes the block into slot d; nothing else of the head knows it. -/
def mkB (ops : Array Oper) (n k1 : Nat) (d : Tmp) : Bool :=
  Region.lexTailB .any ops n && decide (k1 < n) &&
  (match ops[k1]? with | some o => o.dst == some d && o.guard.isNone | none => false) &&
  (List.range n).all fun j => j == k1 || match ops[j]? with | some o => !(o.looksAt ops).contains d && o.dst != some d | none => true
def RelK (k1 : Nat) (d : Tmp) (w0 : World) (zs : Array Value) (T : TypeId) (l : Array Bool) (a b : Act) (w : World) : Prop :=
  Gr w0 w ∧ ((l.getD k1 false = true ∧ ∃ B, b = a.put (some d) (.pointer (some ⟨B, 0, none⟩)) ∧ w0.heap.size ≤ B ∧ w.heap[B]? = some (.cells zs T)) ∨ (l.getD k1 false = false ∧ b = a))
theorem wp_region_mk {id : Nat} {Q : Exit → Act → World → Prop} {a : Act} {w : World} {l : List Oper} {o1 : Oper} (n k1 : Nat) (d : Tmp) (zs : Array Value) (T : TypeId) (hm : P.follows .mixedOrders = true) (hk1 : l.toArray[k1]? = some o1) (hB : mkB l.toArray n k1 d = true)
    (hal : ∀ b w', o1.wp P b w' (fun b' w'' => b' = b.put (some d) (.pointer (some ⟨w'.heap.size, 0, none⟩)) ∧ w'' = w'.alloc (.cells zs T)) (fun _ _ _ => False))
    (h' : ∀ K : Act → Prop, (∀ a', (∀ B w', Gr w w' → w.heap.size ≤ B → w'.heap[B]? = some (.cells zs T) → wpList P l.toArray Q (l.drop n) (a'.put (some d) (.pointer (some ⟨B, 0, none⟩))) w') → K a') →
      wpG P l.toArray (Gr w) (fun i => if i = n then (fun _ => False) else fun _ => True) (fun i => i == k1) K (l.take n) 0 a) : (Code.region id l.toArray true).wp P Q a w := by
  have h := h' (fun a' => ∀ B w', Gr w w' → w.heap.size ≤ B → w'.heap[B]? = some (.cells zs T) → wpList P l.toArray Q (l.drop n) (a'.put (some d) (.pointer (some ⟨B, 0, none⟩))) w') (fun a' x => x)
  simp only [mkB, Region.lexTailB, Bool.and_eq_true, decide_eq_true_eq, hk1, beq_iff_eq, Option.isNone_iff_eq_none] at hB
  obtain ⟨⟨⟨⟨⟨⟨⟨hsel, hn⟩, hs⟩, hc⟩, hlex⟩, h1n⟩, hd1, hg1'⟩, hap⟩ := hB
  have hn' : n < l.length := by simpa using hn
  have htl : (l.take n).length = n := by simp; omega
  have hdl : (l.drop n).length = l.toArray.size - n := by simp
  have inv0 : HeadInv .any l.toArray n (Array.replicate l.toArray.size false) :=
    ⟨by simp, fun j oj _ hl => (by rw [getD_replicate_false] at hl; cases hl), fun t _ ht => getD_in (by simpa using ht) (getD_replicate_false _ _)⟩
  have sp2 : ∀ i, ((i == k1) = true) → i = k1 := fun i hi => by simpa using hi
  have nsp : ∀ i, ¬ ((i == k1) = true) → i ≠ k1 := fun i hi => by simpa using hi
  have n12 : ¬ k1 = n := by omega
  have H := wpH_lex (md := .any) (g := l.toArray.size - n) (Pk := fun i => if i = n then (fun _ => False) else fun _ => True) (sp := fun i => i == k1) (fun k oi ok a v hk ho hap2 hD => by
    obtain rfl := sp2 k hk
    rw [if_neg n12]; trivial) (fun k ok oj a v hk ho hap2 hD => by
    obtain rfl := sp2 k hk
    rw [if_neg n12]; trivial) hsel hs hc hn (l.take n) 0 _ a (fun j hj => by
    have hj' : j < n := by rw [htl] at hj; exact hj
    simp [hj']) (by simpa using htl) inv0 (fun j => by rw [getD_replicate_false]; simp) (by simp) (by rw [htl]; exact hlex) h
  rw [htl] at H
  refine wp_region_any hm ?_
  have hw0 : Gr w { w with drawn := w.drawn + 1 } := (Below.refl _ _).drew
  have hap' : ∀ i o, l.toArray[i]? = some o → i < n → ¬ ((i == k1) = true) → (∀ t, some d = some t → t ∉ o.looksAt l.toArray) ∧ (∀ t, some d = some t → o.dst ≠ some t) := fun i o ho hin hnsp => by
    have := List.all_eq_true.1 hap i (List.mem_range.2 hin)
    have h1 := nsp i hnsp
    simp only [ho, Bool.or_eq_true, beq_iff_eq, h1, false_or, Bool.and_eq_true] at this
    simpa using this
  have := wpAny_of_H (Q' := Q) (g := l.toArray.size - n) (RelK k1 d w zs T) (fun _ _ _ _ h => h.1) ?_ ?_ ?_ (fun listed a' b' w' hL hR => by
    obtain ⟨hg, hr⟩ := hR
    have e1 := hL.1.2 k1
    rw [decide_eq_true (by omega)] at e1
    have hq : wpList P l.toArray Q (l.drop n) b' w' := by
      rcases hr with ⟨-, B, rfl, hB1, hB2⟩ | ⟨h1, -⟩
      · exact hL.2 B w' hg hB1 hB2
      · rw [e1] at h1; cases h1
    have := wpAny_of_seq (md := .any) (Q' := Q) (l.drop n) n listed b' w' (fun j => by simp [List.getElem?_drop]) (by rw [hdl]; exact hL.1.1) hq
    rwa [hdl] at this) n _ a a { w with drawn := w.drawn + 1 } (by simp) ⟨hw0, .inr ⟨getD_replicate_false _ _, rfl⟩⟩ H
  · rw [show n + (l.toArray.size - n) = l.toArray.size by omega] at this
    exact this
  · intro i o l' a b w1 w2 u hin hnsp ho hR hg
    have h1 := nsp i hnsp
    obtain ⟨hg1, hr⟩ := hR
    refine ⟨Gr.trans hg1 hg, ?_⟩
    rw [getD_set_ne false h1]
    rcases hr with ⟨h3, B, rfl, hB1, hB2⟩ | ⟨h3, rfl⟩
    · exact .inl ⟨h3, B, Act.put_comm a _ u (hap' i o ho hin hnsp).2, hB1, heap_gr hg hB2⟩
    · exact .inr ⟨h3, rfl⟩
  · intro i o l' a b w1 hin hnsp ho hR
    obtain ⟨hl', hn''⟩ := hap' i o ho hin hnsp
    obtain ⟨hg1, hr⟩ := hR
    rcases hr with ⟨h3, B, rfl, hB1, hB2⟩ | ⟨h3, rfl⟩
    · exact ⟨wanted_put o a (some d) _ hl', fun v hv => gAt_put (ops := l.toArray) (Region.noSelect_spec hsel i o · · ho) hl' hn'' hv⟩
    · exact ⟨rfl, fun v hv => hv⟩
  · intro i o l' a b w1 hin hsp ho hrd hsz hR hP
    obtain ⟨hun, o', ho', hall⟩ := mem_ready.1 hrd
    have hil : i < l.length := by simpa using (Array.getElem?_eq_some_iff.1 ho).1
    obtain ⟨hg1, hr⟩ := hR
    obtain rfl := sp2 i hsp
    rw [hk1] at ho
    cases ho
    have hf : l'.getD i false = false := getD_both hun
    obtain rfl : b = a := by
      rcases hr with ⟨h3, -⟩ | ⟨-, h5⟩
      · rw [hf] at h3; cases h3
      · exact h5
    refine ⟨by unfold Region.wanted; rw [hg1'], ?_⟩
    have ha := hal b w1
    unfold Oper.wp at ha ⊢
    refine upon_map (a := b) (b := b) (fun u w' hu => ?_) (fun dd w' hu => ?_) ha
    · rw [hu.1, hu.2]
      exact ⟨hg1.alloc hg1.size _, .inl ⟨by simp [hsz, hil], w1.heap.size, rfl, hg1.size, (MapKept.heap_alloc w1 _).1⟩⟩
    · exact (no_defer (hd1 ▸ hu.1)).elim
end Go.Proofs.YtogflfepkddbhaaDoor.Hm
