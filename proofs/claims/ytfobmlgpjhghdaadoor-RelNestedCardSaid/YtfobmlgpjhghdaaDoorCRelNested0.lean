/- What RelNested leans on: K H Pa Za Cp Ri Pq Zc -/
import Derived.Test.YtfobmlgpjhghdaaDoorRows
import Derived.WalkKit
import Derived.ProofKit
import Derived.OpenShut
import Derived.Handy
import Derived.Lib.LaidTab
import Derived.Lib.ItoaMem
import Derived.Lib.Walk
import Derived.Deep.QuietTactic
import Derived.BigQuiet
import Derived.Deep.RegionHeld3
import Derived.Deep.DeepHandedRow
import Derived.Lib.Hide
import Derived.Shelf.Spec.BitsCarry
import Derived.Outline
import Derived.Test.YtfobmlgpjhghdaaDoorShelf
import Derived.BigCall
import Derived.BigGuard
import Derived.Laws.Bits64b
import Derived.Deep.CutBlock
import Derived.Deep.DeepCutAuto
import Derived.Deep.LoopGhost
import Derived.StillTail
import Derived.Deep.Slices
import Derived.Stop.Asserts
import Derived.LaidEql
import Derived.RowKitTokens
namespace Go.Proofs.YtfobmlgpjhghdaaDoor
set_option linter.unusedVariables false
open Go.ChangeShapes Go.WideShapes Go.ChangeAt Go.RowKit
abbrev Gr (w w' : World) : Prop := Below w.heap.size w w'
theorem Gr.trans {a b c : World} (h : Gr a b) (k : Gr b c) : Gr a c := Below.trans h (k.mono h.size)
theorem Gr.of_eq {a b : World} (h : b = a) : Gr a b := by subst h; exact Below.refl _ _
theorem cell_gr {a b : World} {p : Addr} {v : Value} (g : Gr a b) (h : a.cell? p = some v) : b.cell? p = some v := (g.cell (World.block_lt_of_cell? a p h)).trans h
theorem frozen_gr {a b : World} {p : Addr} {v : Value} (g : Gr a b) (h : a.cell? p = some v) (hf : a.frozen? p = false) : b.frozen? p = false := (g.frozen (World.block_lt_of_cell? a p h)).trans hf
section
variable {H : Type} {enc : TypeId × Value → H} {P : Program}
theorem trodAll_below (hl : laidOutB P = true) {W W' : World} (hb : Gr W W') {sp : Nat → Bool} :
    ∀ {ts : List TypeId} {vs : List Value} {ds : List (DataW H)} {ps : List MemPlace}, (∀ t ∈ ts, P.readableRec t = true ∧ t < P.types.size) →
      DataW.TrodAll enc P W 0 (fun _ => true) true ts vs ds ps → (∀ x ∈ ps, x.block < W.heap.size) → (∀ x ∈ ps, sp x.block = true) →
      DataW.TrodAll enc P W' 0 sp true ts vs ds ps
  | [], vs, ds, ps, _, h, _, _ => by
    obtain ⟨rfl, rfl, rfl⟩ := trodAll_nil h
    exact trodAll_mk0
  | t :: ts, vs, ds, ps, ht, h, hlt, hsp => by
    obtain ⟨v, vs', d, ds', p, q, rfl, rfl, rfl, h0, hr⟩ := trodAll_cons h
    refine trodAll_cons_mk ?_ (trodAll_below hl hb (fun u hu => ht u (List.mem_cons_of_mem _ hu)) hr (fun x hx => hlt x (List.mem_append_right _ hx)) (fun x hx => hsp x (List.mem_append_right _ hx)))
    exact WideElems.Trod_stays hl (ht t List.mem_cons_self).1 (ht t List.mem_cons_self).2 h0 (fun x hx => hb.same (hlt x (List.mem_append_left _ hx))) (fun x hx => hsp x (List.mem_append_left _ hx))
theorem law_post (hl : laidOutB P = true) {f : Func} {s : ChangeSpec} {W W' : World} {args : Array Value} {ds gs : List (DataW H)} {before : List MemPlace} {tb : TypeId}
    (hts : ∀ t ∈ f.params.toList, P.readableRec t = true ∧ t < P.types.size)
    (hvs : s.vars = []) (hr : f.resultTypes = #[tb]) (htb : P.underlying tb = some .bool)
    (hfn : (s.fn H (ds ++ gs)).results = [.lit (.bool true)] ∧ (s.fn H (ds ++ gs)).args = ds ∧ (s.fn H (ds ++ gs)).vars = [])
    (hW : DataW.Whole enc P f.params.toList s.vars false W args.toList ds gs before) (hb : Gr W W') :
    s.post enc P f false true false false W args (.bool true) W' := by
  have hW' := hW
  obtain ⟨p, q, hA, hV, rfl, hz, hn⟩ := hW
  have hlt : ∀ x ∈ p ++ q, x.block < W.heap.size := fun x hx => hW'.lt x hx
  rw [hvs] at hV
  obtain ⟨rfl, rfl⟩ := trodVars_none hV
  have hsz : f.resultTypes.toList = [tb] := by rw [hr]
  have hrs : (Value.bool true).resultList f.resultTypes.size = [.bool true] := by rw [hr]; rfl
  have hres : ∀ (b : Nat) (sp : Nat → Bool) (hd : Bool), DataW.TrodAll enc P W' b sp hd f.resultTypes.toList ((Value.bool true).resultList f.resultTypes.size) (s.fn H (ds ++ [])).results [] := fun b sp hd => by
    rw [hsz, hrs, hfn.1]
    exact trodAll_cons_mk (shut_bool htb _) trodAll_mk0
  have hargs : ∀ sp : Nat → Bool, (∀ x ∈ p ++ [], sp x.block = true) → DataW.TrodAll enc P W' 0 sp true f.params.toList args.toList (s.fn H (ds ++ [])).args p := fun sp hsp => by
    rw [hfn.2.1]
    exact trodAll_below hl hb hts hA (fun x hx => hlt x (List.mem_append_left _ hx)) (fun x hx => hsp x (List.mem_append_left _ hx))
  have hvars : ∀ sp : Nat → Bool, (∀ x ∈ p ++ [], sp x.block = true) → DataW.TrodVars enc P W' sp s.vars (s.fn H (ds ++ [])).vars [] := fun sp _ => by
    rw [hfn.2.2, hvs]
    rfl
  have hold : ∀ x ∈ p ++ [], (fun b => decide (b < W.heap.size)) x.block = true := fun x hx => by simpa using hlt x hx
  refine ⟨ds, [], p ++ [], [], p, [], hW', hres _ _ _, hargs _ hold, hvars _ hold, World.keptBut_mono (fun x hx => ⟨hx, Or.inr (by simpa using hx)⟩) (hb.frame (· ∈ p ++ [])), fun _ => ?_⟩
  refine ⟨?_, _, _, ([] ++ p) ++ [], ⟨[] ++ p, [], trodAll_append (hargs _ (fun _ _ => rfl)) (hres _ _ _), hvars _ (fun _ _ => rfl), rfl, ?_, ?_⟩, ?_⟩
  · intro j t r h1 h2
    rw [hr] at h1
    rw [hrs] at h2
    cases j with
    | zero =>
      simp at h1 h2
      subst h1 h2
      exact okWide_bool_mk htb _
    | succ j => simp at h1
  · intro b off hp
    have hin : MemPlace.cell b off ∈ p ++ [] := by simpa using hp
    rw [hb.frozen (hlt _ hin)]
    exact hz b off hin
  · intro ha
    cases ha
  · intro x hx _
    simpa using hx
end
end Go.Proofs.YtfobmlgpjhghdaaDoor
namespace Go.Proofs.YtfobmlgpjhghdaaDoor
set_option linter.unusedVariables false
open Go.ChangeShapes Go.WideShapes Go.ChangeAt Go.RowKit
structure More where
  d : Nat
  os : Array Obj
instance : Nonempty More := ⟨⟨0, #[]⟩⟩
def spread (w : World) (m : More) : World := { w with heap := w.heap ++ m.os, drawn := m.d }
theorem gr_spread (w : World) (m : More) : Gr w (spread w m) :=
  ⟨rfl, rfl, rfl, by simp [spread], fun k hk => by simp [spread, Array.getElem?_append, hk]⟩
theorem spread_of_gr {w w' : World} (g : Gr w w') : ∃ m, w' = spread w m := by
  refine ⟨⟨w'.drawn, w'.heap.extract w.heap.size w'.heap.size⟩, ?_⟩
  have hh : w'.heap = w.heap ++ w'.heap.extract w.heap.size w'.heap.size := by
    refine Array.ext_getElem? fun k => ?_
    rw [Array.getElem?_append]
    split
    · rename_i hk
      exact g.block k hk
    · rename_i hk
      rw [Array.getElem?_extract]
      have hs := g.size
      by_cases hk2 : k < w'.heap.size
      · rw [if_pos (by omega), show w.heap.size + (k - w.heap.size) = k by omega]
      · rw [if_neg (by omega), Array.getElem?_eq_none (by omega)]
  obtain ⟨h1, h2, h3, h4, h5⟩ := g
  cases w'
  simp only [spread] at *
  subst h1 h2 h3
  congr
theorem spread_gr {w : World} {m : More} {w' : World} (g : Gr (spread w m) w') : ∃ m', w' = spread w m' := spread_of_gr (Gr.trans (gr_spread w m) g)
@[go_sem] theorem cell?_spread (w : World) (m : More) (a : Addr) (h : (w.cell? a).isSome = true) : (spread w m).cell? a = w.cell? a := by
  obtain ⟨u, hu⟩ := Option.isSome_iff_exists.1 h
  exact (gr_spread w m).cell (World.block_lt_of_cell? w a hu)
theorem wp_region_spread {P : Program} {id : Nat} {Q : Exit → Act → World → Prop} {a : Act} {w : World} {l : List Oper} (hm : P.follows .mixedOrders = true) (hB : Region.lexB .any l.toArray = true)
    (h : wpQuiet P l.toArray (fun w' => ∃ m, w' = spread w m) (fun a' => ∀ w', (∃ m, w' = spread w m) → Q .normal a' w') l a) : (Code.region id l.toArray true).wp P Q a w :=
  wp_region_quiet (C := fun w' => ∃ m, w' = spread w m) hm hB ⟨⟨w.drawn + 1, #[]⟩, by simp [spread]⟩ (by simpa using h)
end Go.Proofs.YtfobmlgpjhghdaaDoor
namespace Go.Proofs.YtfobmlgpjhghdaaDoor
set_option linter.unusedVariables false
open Go.ChangeShapes Go.WideShapes Go.ChangeAt Go.RowKit
end Go.Proofs.YtfobmlgpjhghdaaDoor
namespace Go.Proofs.YtfobmlgpjhghdaaDoor.Hd
set_option linter.unusedVariables false
set_option linter.unusedSimpArgs false
open Go.ChangeShapes Go.WideShapes Go.ChangeAt Go.RowKit
variable {P : Program} {ops : Array Oper} {md : Region.Mode} {Rc : World → Prop} {Pk : Act → Prop} {n k : Nat}
def gAt (P : Program) (o : Oper) (a : Act) (w : World) (v : Value) : Prop := o.wp P a w (fun a' w' => a' = a.put o.dst v ∧ Gr w w') (fun _ _ _ => False)
theorem upon_map {o : Oper} {a b : Act} {next next' : Act → World → Prop} {Q : Exit → Act → World → Prop} {r : Result Next}
    (hv : ∀ u w', next (a.put o.dst u) w' → next' (b.put o.dst u) w')
    (hd : ∀ d w', next (({ a with defers := d :: a.defers } : Act).put o.dst undef) w' → next' (({ b with defers := d :: b.defers } : Act).put o.dst undef) w')
    (h : o.upon P a next (fun _ _ _ => False) r) : o.upon P b next' Q r := by
  cases r with
  | ok x w' =>
    cases x with
    | value u => exact hv _ _ h
    | skip => exact hv _ _ h
    | defer d => exact hd _ _ h
    | enter f args =>
      refine Calls.mono h fun e w'' hw => ?_
      cases e with
      | returned u => exact hv _ _ hw
      | panicked c => exact hw.elim
      | outgrown => exact hw.elim fun _ h => h.elim fun _ h => h.elim
    | row s args => exact Rows.mono h fun v w'' hw => hv _ _ hw
    | _ => exact h.elim
  | halt x w' =>
    cases x with
    | panic v => exact h.elim
    | _ => exact h.elim
theorem no_defer {a : Act} {d : Deferred} {x : Option Tmp} {v : Value} (h : (({ a with defers := d :: a.defers } : Act).put x undef) = a.put x v) : False := by
  have h1 : (({ a with defers := d :: a.defers } : Act).put x undef).defers = (a.put x v).defers := by rw [h]
  have h2 : (({ a with defers := d :: a.defers } : Act).put x undef).defers = d :: a.defers := by cases x <;> rfl
  have h3 : (a.put x v).defers = a.defers := by cases x <;> rfl
  rw [h2, h3] at h1
  have := congrArg List.length h1
  simp at this
theorem gAt_put {o : Oper} {a : Act} {w : World} {v x : Value} {d : Option Tmp} (hs : ∀ cs b, o.op ≠ .select cs b) (hl : ∀ t, d = some t → t ∉ o.looksAt ops) (hne : ∀ t, d = some t → o.dst ≠ some t)
    (h : gAt P o a w v) : gAt P o (a.put d x) w v := by
  unfold gAt Oper.wp at *
  rw [execOp_put (ops := ops) o hs a d x hl]
  refine upon_map (fun u w' hu => ⟨?_, hu.2⟩) (fun dd w' hu => (no_defer hu.1).elim) h
  rw [Act.put_comm a x u hne, Act.put_comm a x v hne, hu.1]
theorem gAt_unput {o : Oper} {a : Act} {w : World} {v x : Value} {d : Option Tmp} (hs : ∀ cs b, o.op ≠ .select cs b) (hl : ∀ t, d = some t → t ∉ o.looksAt ops) (hne : ∀ t, d = some t → o.dst ≠ some t)
    (hcan : ∀ u, (a.put d x).put o.dst u = (a.put d x).put o.dst v → a.put o.dst u = a.put o.dst v)
    (h : gAt P o (a.put d x) w v) : gAt P o a w v := by
  unfold gAt Oper.wp at *
  rw [execOp_put (ops := ops) o hs a d x hl] at h
  refine upon_map (fun u w' hu => ⟨hcan u hu.1, hu.2⟩) (fun dd w' hu => (no_defer (a := a.put d x) hu.1).elim) h
def gOp (P : Program) (ops : Array Oper) (Rc : World → Prop) (Pk : Act → Prop) (k i : Nat) (K : Act → Prop) (a : Act) : Prop :=
  if i = k then Pk a ∧ K a else
  match ops[i]? with
  | none => K a
  | some o => if Region.wanted o (yielded ops a.tmps) = true then ∃ v, (∀ w, Rc w → gAt P o a w v) ∧ K (a.put o.dst v) else K (a.put o.dst undef)
theorem gOp_mono {i : Nat} {a : Act} {K K' : Act → Prop} (h : ∀ a, K a → K' a) (hh : gOp P ops Rc Pk k i K a) : gOp P ops Rc Pk k i K' a := by
  unfold gOp at *
  split
  · rename_i hi; rw [if_pos hi] at hh; exact ⟨hh.1, h _ hh.2⟩
  · rename_i hi
    rw [if_neg hi] at hh
    split
    · rename_i ho; simp only [ho] at hh; exact h _ hh
    · rename_i o ho
      simp only [ho] at hh
      split
      · rename_i hw; rw [if_pos hw] at hh; exact ⟨hh.choose, hh.choose_spec.1, h _ hh.choose_spec.2⟩
      · rename_i hw; rw [if_neg hw] at hh; exact h _ hh
theorem gOp_mono' {i : Nat} {o : Oper} {a : Act} {K K' : Act → Prop} (hik : i ≠ k) (ho : ops[i]? = some o) (h : ∀ u, K (a.put o.dst u) → K' (a.put o.dst u)) (hh : gOp P ops Rc Pk k i K a) : gOp P ops Rc Pk k i K' a := by
  unfold gOp at *
  rw [if_neg hik] at *
  simp only [ho] at *
  split
  · rename_i hw; rw [if_pos hw] at hh; exact ⟨hh.choose, hh.choose_spec.1, h _ hh.choose_spec.2⟩
  · rename_i hw; rw [if_neg hw] at hh; exact h _ hh
def wpG (P : Program) (ops : Array Oper) (Rc : World → Prop) (Pk : Act → Prop) (k : Nat) (Q : Act → Prop) : List Oper → Nat → Act → Prop
  | [], _, a => Q a
  | o :: rest, i, a => if i = k then Pk a ∧ wpG P ops Rc Pk k Q rest (i + 1) a else
      if Region.wanted o (yielded ops a.tmps) = true then ∃ v, (∀ w, Rc w → gAt P o a w v) ∧ wpG P ops Rc Pk k Q rest (i + 1) (a.put o.dst v) else wpG P ops Rc Pk k Q rest (i + 1) (a.put o.dst undef)
def wpH (P : Program) (md : Region.Mode) (ops : Array Oper) (Rc : World → Prop) (Pk : Act → Prop) (k n : Nat) (L : Array Bool → Act → Prop) : Nat → Array Bool → Act → Prop
  | 0, listed, a => L listed a
  | f + 1, listed, a => Region.ready md ops listed ≠ [] ∧ ∀ i ∈ Region.ready md ops listed, i < n ∧ gOp P ops Rc Pk k i (wpH P md ops Rc Pk k n L f (listed.setIfInBounds i true)) a
def GIn (P : Program) (ops : Array Oper) (Rc : World → Prop) (o : Oper) (v : Value) (a : Act) : Prop :=
  (Region.wanted o (yielded ops a.tmps) = true ∧ ∀ w, Rc w → gAt P o a w v) ∨ (Region.wanted o (yielded ops a.tmps) = false ∧ v = undef)
theorem GIn.gOp {i : Nat} {o : Oper} {v : Value} {a : Act} (hik : i ≠ k) (hi : ops[i]? = some o) (hy : GIn P ops Rc o v a) {K : Act → Prop} (h : K (a.put o.dst v)) : gOp P ops Rc Pk k i K a := by
  unfold Hd.gOp
  rw [if_neg hik]
  simp only [hi]
  rcases hy with ⟨hw, hv⟩ | ⟨hw, rfl⟩
  · rw [if_pos hw]; exact ⟨v, hv, h⟩
  · rw [if_neg (by rw [hw]; decide)]; exact h
theorem gIn_of_gOp {i : Nat} {o : Oper} {a : Act} {K : Act → Prop} (hik : i ≠ k) (hi : ops[i]? = some o) (h : Hd.gOp P ops Rc Pk k i K a) : ∃ v, GIn P ops Rc o v a ∧ K (a.put o.dst v) := by
  unfold Hd.gOp at h
  rw [if_neg hik] at h
  simp only [hi] at h
  by_cases hw : Region.wanted o (yielded ops a.tmps) = true
  · rw [if_pos hw] at h
    obtain ⟨v, h1, h2⟩ := h
    exact ⟨v, .inl ⟨hw, h1⟩, h2⟩
  · rw [if_neg hw] at h
    exact ⟨undef, .inr ⟨by simpa using hw, rfl⟩, h⟩
theorem GIn.put {o : Oper} {v x : Value} {a : Act} {d : Option Tmp} (hs : ∀ cs b, o.op ≠ .select cs b) (hl : ∀ t, d = some t → t ∉ o.looksAt ops) (hne : ∀ t, d = some t → o.dst ≠ some t)
    (h : GIn P ops Rc o v a) : GIn P ops Rc o v (a.put d x) := by
  unfold GIn at *
  rw [wanted_put o a d x hl]
  rcases h with ⟨h1, h2⟩ | h
  · exact .inl ⟨h1, fun w hw => gAt_put hs hl hne (h2 w hw)⟩
  · exact .inr h
theorem put_cancel {a : Act} {d x : Option Tmp} {y u v : Value} (h : (a.put d y).put x u = (a.put d y).put x v) : a.put x u = a.put x v := by
  cases x with
  | none => rfl
  | some t =>
    have hsz : (a.put d y).tmps.size = a.tmps.size := by cases d <;> simp [Act.put]
    have h1 : ((a.put d y).put (some t) u).tmps[t]? = ((a.put d y).put (some t) v).tmps[t]? := by rw [h]
    simp only [Act.put] at h1 ⊢
    by_cases ht : t < a.tmps.size
    · have ht2 : t < (a.put d y).tmps.size := by rw [hsz]; exact ht
      cases d with
      | none => simp [Act.put, ht] at h1; rw [h1]
      | some e => simp [Act.put, ht] at h1; rw [h1]
    · simp [Array.setIfInBounds, ht]
theorem gOp_put {j : Nat} {oi oj : Oper} {v : Value} (hjk : j ≠ k) (hj : ops[j]? = some oj) (hap : oi.apart ops oj = true)
    (hsi : ∀ cs b, oi.op ≠ .select cs b) (hsj : ∀ cs b, oj.op ≠ .select cs b) {K : Act → Prop} {a : Act}
    (hy : GIn P ops Rc oi v a) (h : gOp P ops Rc Pk k j K (a.put oi.dst v)) :
    gOp P ops Rc Pk k j (fun a' => GIn P ops Rc oi v a' ∧ K (a'.put oi.dst v)) a := by
  obtain ⟨h1, h2, h3⟩ := Oper.apart_spec hap
  have h2' : ∀ d, oj.dst = some d → oi.dst ≠ some d := fun d hd hi => h2 d hi hd
  have keep : ∀ u, GIn P ops Rc oi v (a.put oj.dst u) := fun u => GIn.put (ops := ops) hsi h3 h2' hy
  unfold gOp at *
  rw [if_neg hjk] at *
  simp only [hj] at *
  rw [wanted_put oj a oi.dst v h1] at h
  split
  · rename_i hw
    rw [if_pos hw] at h
    obtain ⟨u, hu, hn⟩ := h
    refine ⟨u, fun w hw' => gAt_unput (ops := ops) hsj h1 h2 (fun x hx => put_cancel hx) (hu w hw'), keep u, by rw [← Act.put_comm a v u h2]; exact hn⟩
  · rename_i hw
    rw [if_neg hw] at h
    exact ⟨keep _, by rw [← Act.put_comm a v undef h2]; exact h⟩
theorem wpH_first {i : Nat} {oi : Oper} {v : Value} {L : Array Bool → Act → Prop} (hP1 : ∀ (oi ok : Oper) a v, ops[k]? = some ok → oi.apart ops ok = true → Pk (a.put oi.dst v) → Pk a) (hik : i ≠ k) (hi : ops[i]? = some oi) (hsel : ∀ (j : Nat) (o : Oper) cs b, ops[j]? = some o → o.op ≠ .select cs b)
    (hs : Region.sinkB md ops n = true) (hc : Region.chainB md ops n = true) (hn : n < ops.size) (hin : i < n)
    (hdone : ∀ listed a, L listed a → ∀ j ∈ Region.ready md ops listed, n ≤ j) :
    ∀ (f : Nat) (listed : Array Bool) (a : Act), HeadInv md ops n listed →
      (∀ j oj, ops[j]? = some oj → j ≠ i → listed.getD j true = false → (∀ e ∈ oj.after, Region.binds md e = true → e.on ≠ i) → oi.apart ops oj = true) →
      i ∈ Region.ready md ops listed → GIn P ops Rc oi v a →
      wpH P md ops Rc Pk k n L f (listed.setIfInBounds i true) (a.put oi.dst v) → wpH P md ops Rc Pk k n L (f + 1) listed a := by
  intro f
  induction f with
  | zero =>
    intro listed a inv _ hr hy H
    have hun := (mem_ready.1 hr).1
    refine ⟨fun h => (by rw [h] at hr; cases hr), fun j hj => ?_⟩
    have hjn : j < n := by
      rcases Nat.lt_or_ge j n with h | h
      · exact h
      · exact absurd hj (tail_waits hs hc hn inv _ i rfl hin hun j h)
    refine ⟨hjn, ?_⟩
    by_cases hji : j = i
    · subst hji; exact hy.gOp hik hi H
    · have := hdone _ _ H j (ready_mono hj hji)
      omega
  | succ f ih =>
    intro listed a inv hfree hr hy H
    have hun := (mem_ready.1 hr).1
    refine ⟨fun h => (by rw [h] at hr; cases hr), fun j hj => ?_⟩
    have hjn : j < n := by
      rcases Nat.lt_or_ge j n with h | h
      · exact h
      · exact absurd hj (tail_waits hs hc hn inv _ i rfl hin hun j h)
    refine ⟨hjn, ?_⟩
    by_cases hji : j = i
    · subst hji; exact hy.gOp hik hi H
    · have h1 := (H.2 j (ready_mono hj hji)).2
      obtain ⟨hjun, oj, hoj, hall⟩ := mem_ready.1 hj
      have hnot : ∀ e ∈ oj.after, Region.binds md e = true → e.on ≠ i := fun e he hb heq => by
        have h1 := hall e he hb
        rw [heq, getD_both hun] at h1
        cases h1
      have hfree' : ∀ m ok, ops[m]? = some ok → m ≠ i → (listed.setIfInBounds j true).getD m true = false →
          (∀ e ∈ ok.after, Region.binds md e = true → e.on ≠ i) → oi.apart ops ok = true := fun m ok hm hmi hun hno => by
        refine hfree m ok hm hmi ?_ hno
        by_cases hjm : j = m
        · subst hjm; exact hjun
        · rw [getD_set_ne true hjm] at hun; exact hun
      have go : ∀ a', GIn P ops Rc oi v a' → wpH P md ops Rc Pk k n L f ((listed.setIfInBounds i true).setIfInBounds j true) (a'.put oi.dst v) → wpH P md ops Rc Pk k n L (f + 1) (listed.setIfInBounds j true) a' := fun a' hy' h3 => by
        refine ih (listed.setIfInBounds j true) a' (inv.set hj hjn) hfree' (ready_mono hr (Ne.symm hji)) hy' ?_
        rw [Array.setIfInBounds_comm _ _ hji]
        exact h3
      by_cases hjk : j = k
      · subst hjk
        unfold gOp at h1 ⊢
        rw [if_pos rfl] at h1 ⊢
        exact ⟨hP1 oi oj a v hoj (hfree j oj hoj hji hjun hnot) h1.1, go a hy h1.2⟩
      · have h2 := gOp_put hjk hoj (hfree j oj hoj hji hjun hnot) (fun cs b => hsel i oi cs b hi) (fun cs b => hsel j oj cs b hoj) hy h1
        exact gOp_mono (fun a' h3 => go a' h3.1 h3.2) h2
theorem wpH_first_alloc {ok : Oper} {L : Array Bool → Act → Prop} (hP2 : ∀ (oj : Oper) a v, ok.apart ops oj = true → Pk a → Pk (a.put oj.dst v)) (hs : Region.sinkB md ops n = true) (hc : Region.chainB md ops n = true) (hn : n < ops.size) (hkn : k < n)
    (hdone : ∀ listed a, L listed a → ∀ j ∈ Region.ready md ops listed, n ≤ j) :
    ∀ (f : Nat) (listed : Array Bool) (a : Act), HeadInv md ops n listed →
      (∀ j oj, ops[j]? = some oj → j ≠ k → listed.getD j true = false → (∀ e ∈ oj.after, Region.binds md e = true → e.on ≠ k) → ok.apart ops oj = true) →
      k ∈ Region.ready md ops listed → Pk a →
      wpH P md ops Rc Pk k n L f (listed.setIfInBounds k true) a → wpH P md ops Rc Pk k n L (f + 1) listed a := by
  intro f
  induction f with
  | zero =>
    intro listed a inv _ hr hp H
    have hun := (mem_ready.1 hr).1
    refine ⟨fun h => (by rw [h] at hr; cases hr), fun j hj => ?_⟩
    have hjn : j < n := by
      rcases Nat.lt_or_ge j n with h | h
      · exact h
      · exact absurd hj (tail_waits hs hc hn inv _ k rfl hkn hun j h)
    refine ⟨hjn, ?_⟩
    by_cases hjk : j = k
    · subst hjk; unfold gOp; rw [if_pos rfl]; exact ⟨hp, H⟩
    · have := hdone _ _ H j (ready_mono hj hjk)
      omega
  | succ f ih =>
    intro listed a inv hfree hr hp H
    have hun := (mem_ready.1 hr).1
    refine ⟨fun h => (by rw [h] at hr; cases hr), fun j hj => ?_⟩
    have hjn : j < n := by
      rcases Nat.lt_or_ge j n with h | h
      · exact h
      · exact absurd hj (tail_waits hs hc hn inv _ k rfl hkn hun j h)
    refine ⟨hjn, ?_⟩
    by_cases hjk : j = k
    · subst hjk; unfold gOp; rw [if_pos rfl]; exact ⟨hp, H⟩
    · have h1 := (H.2 j (ready_mono hj hjk)).2
      obtain ⟨hjun, oj, hoj, hall⟩ := mem_ready.1 hj
      have hnot : ∀ e ∈ oj.after, Region.binds md e = true → e.on ≠ k := fun e he hb heq => by
        have h1 := hall e he hb
        rw [heq, getD_both hun] at h1
        cases h1
      have hfree' : ∀ m om, ops[m]? = some om → m ≠ k → (listed.setIfInBounds j true).getD m true = false →
          (∀ e ∈ om.after, Region.binds md e = true → e.on ≠ k) → ok.apart ops om = true := fun m om hm hmi hun hno => by
        refine hfree m om hm hmi ?_ hno
        by_cases hjm : j = m
        · subst hjm; exact hjun
        · rw [getD_set_ne true hjm] at hun; exact hun
      refine gOp_mono' hjk hoj (fun u h3 => ih (listed.setIfInBounds j true) _ (inv.set hj hjn) hfree' (ready_mono hr (Ne.symm hjk)) (hP2 oj a u (hfree j oj hoj hjk hjun hnot) hp) ?_) h1
      rw [Array.setIfInBounds_comm _ _ hjk]
      exact h3
theorem wpH_lex {g : Nat} {Lq : Act → Prop} (hP1 : ∀ (oi ok : Oper) a v, ops[k]? = some ok → oi.apart ops ok = true → Pk (a.put oi.dst v) → Pk a) (hP2 : ∀ (ok oj : Oper) a v, ops[k]? = some ok → ok.apart ops oj = true → Pk a → Pk (a.put oj.dst v)) (hsel : Region.noSelect ops = true) (hs : Region.sinkB md ops n = true) (hc : Region.chainB md ops n = true) (hn : n < ops.size) :
    ∀ (l : List Oper) (i : Nat) (listed : Array Bool) (a : Act), (∀ j, j < l.length → l[j]? = ops[i + j]?) → i + l.length = n → HeadInv md ops n listed →
    (∀ j, listed.getD j false = decide (j < i)) → listed.size = ops.size → Region.lexHead md ops g l.length i listed = true → wpG P ops Rc Pk k Lq l i a →
    wpH P md ops Rc Pk k n (fun listed' a' => (Region.seqB md ops g n listed' = true ∧ listed'.getD k false = decide (k < n)) ∧ Lq a') l.length listed a
  | [], i, listed, a, _, hk, _, hd, _, hB, h => by
    have : i = n := by simpa using hk
    subst this
    exact ⟨⟨by simpa [Region.lexHead] using hB, hd k⟩, h⟩
  | o :: l, i, listed, a, hl, hk, inv, hd, hsz, hB, h => by
    have h0 : ops[i]? = some o := by simpa using (hl 0 (by simp)).symm
    simp only [List.length_cons, Region.lexHead, Bool.and_eq_true] at hB
    obtain ⟨⟨hr, hf⟩, hB'⟩ := hB
    have hkn : i < n := by simp only [List.length_cons] at hk; omega
    have hr' : i ∈ Region.ready md ops listed := by simpa using hr
    have next : ∀ a', wpG P ops Rc Pk k Lq l (i + 1) a' → wpH P md ops Rc Pk k n (fun listed' a' => (Region.seqB md ops g n listed' = true ∧ listed'.getD k false = decide (k < n)) ∧ Lq a') l.length (listed.setIfInBounds i true) a' := fun a' h' =>
      wpH_lex hP1 hP2 hsel hs hc hn l (i + 1) _ _ (fun j hj => by have := hl (j + 1) (by simp; omega); simpa [Nat.add_assoc, Nat.add_comm 1 j] using this) (by simp only [List.length_cons] at hk; omega) (inv.set hr' hkn) (fun j => by
        by_cases hji : i = j
        · subst hji
          simp [hsz, show i < ops.size by omega]
        · rw [getD_set_ne false hji, hd j]
          rw [decide_eq_decide]
          omega) (by simp [hsz]) hB' h'
    unfold wpG at h
    by_cases hik : i = k
    · rw [if_pos hik] at h
      subst hik
      exact wpH_first_alloc (ok := o) (fun oj a v => hP2 o oj a v h0) hs hc hn hkn (fun listed' a' hL => seqB_ready hL.1.1) l.length listed a inv (Region.free_spec h0 hf) hr' h.1 (next a h.2)
    · rw [if_neg hik] at h
      have hst : gOp P ops Rc Pk k i (wpG P ops Rc Pk k Lq l (i + 1)) a := by unfold gOp; rw [if_neg hik]; simp only [h0]; exact h
      obtain ⟨v, hy, hK⟩ := gIn_of_gOp hik h0 hst
      exact wpH_first hP1 hik h0 (Region.noSelect_spec hsel) hs hc hn hkn (fun listed' a' hL => seqB_ready hL.1.1) l.length listed a inv (Region.free_spec h0 hf) hr' hy (next _ hK)
def Rel (k : Nat) (d : Option Tmp) (R0 : World → Prop) (R1 : Value → World → Prop) (listed : Array Bool) (a b : Act) (w : World) : Prop :=
  if listed.getD k false = true then ∃ v, b = a.put d v ∧ R1 v w else b = a ∧ R0 w
theorem wpOp_of_gAt {i : Nat} {o : Oper} {b : Act} {w : World} {v : Value} {K' : Act → World → Prop} {Q' : Exit → Act → World → Prop} (ho : ops[i]? = some o) (hw : Region.wanted o (yielded ops b.tmps) = true) (hb : gAt P o b w v)
    (h : ∀ w', Gr w w' → K' (b.put o.dst v) w') : wpOp P ops Q' i K' b w := by
  unfold wpOp
  simp only [ho]
  rw [if_pos hw]
  refine .inl ?_
  unfold gAt Oper.wp at hb
  unfold Oper.wp
  refine upon_map (fun u w' hu => ?_) (fun d w' hu => (no_defer hu.1).elim) hb
  rw [hu.1]
  exact h w' hu.2
def Does (P : Program) (ok : Oper) (R0 : World → Prop) (R1 : Value → World → Prop) (a : Act) : Prop := ∀ w, R0 w → ok.wp P a w (fun a' w' => ∃ v, a' = a.put ok.dst v ∧ R1 v w') (fun _ _ _ => False)
theorem Does.put {ok : Oper} {R0 : World → Prop} {R1 : Value → World → Prop} {a : Act} {x : Value} {d : Option Tmp} (hs : ∀ cs b, ok.op ≠ .select cs b) (hl : ∀ t, d = some t → t ∉ ok.looksAt ops) (hne : ∀ t, d = some t → ok.dst ≠ some t)
    (h : Does P ok R0 R1 a) : Does P ok R0 R1 (a.put d x) := by
  intro w hw
  have h := h w hw
  unfold Oper.wp at *
  rw [execOp_put (ops := ops) ok hs a d x hl]
  refine upon_map (fun u w' hu => ?_) (fun dd w' hu => ?_) h
  · obtain ⟨v, h1, h2⟩ := hu
    exact ⟨v, by rw [Act.put_comm a x u hne, Act.put_comm a x v hne, h1], h2⟩
  · obtain ⟨v, h1, h2⟩ := hu
    exact (no_defer h1).elim
theorem Does.unput {ok : Oper} {R0 : World → Prop} {R1 : Value → World → Prop} {a : Act} {x : Value} {d : Option Tmp} (hs : ∀ cs b, ok.op ≠ .select cs b) (hl : ∀ t, d = some t → t ∉ ok.looksAt ops)
    (h : Does P ok R0 R1 (a.put d x)) : Does P ok R0 R1 a := by
  intro w hw
  have h := h w hw
  unfold Oper.wp at *
  rw [execOp_put (ops := ops) ok hs a d x hl] at h
  refine upon_map (fun u w' hu => ?_) (fun dd w' hu => ?_) h
  · obtain ⟨v, h1, h2⟩ := hu
    exact ⟨v, put_cancel h1, h2⟩
  · obtain ⟨v, h1, h2⟩ := hu
    exact (no_defer (a := a.put d x) h1).elim
theorem wpAny_of_H {g : Nat} {R0 : World → Prop} {R1 : Value → World → Prop} {ok : Oper} {L : Array Bool → Act → Prop} {Q' : Exit → Act → World → Prop} (hkn : k < n → ops[k]? = some ok ∧ ok.guard = none)
    (h00 : ∀ w w', R0 w → Gr w w' → R0 w') (h11 : ∀ v w w', R1 v w → Gr w w' → R1 v w') (h0 : ∀ w, R0 w → Rc w) (h1 : ∀ v w, R1 v w → Rc w)
    (hsel : ∀ (j : Nat) (o : Oper) cs b, ops[j]? = some o → o.op ≠ .select cs b)
    (hap : ∀ j o, ops[j]? = some o → j < n → j ≠ k → ∀ t, ok.dst = some t → t ∉ o.looksAt ops ∧ o.dst ≠ some t)
    (hL : ∀ listed a b w, L listed a → Rel k ok.dst R0 R1 listed a b w → wpAny P md ops Q' g listed b w) :
    ∀ (f : Nat) (listed : Array Bool) (a b : Act) (w : World), listed.size = ops.size → Rel k ok.dst R0 R1 listed a b w → wpH P md ops Rc (Does P ok R0 R1) k n L f listed a → wpAny P md ops Q' (f + g) listed b w
  | 0, listed, a, b, w, _, hR, h => by rw [Nat.zero_add]; exact hL _ _ _ _ h hR
  | f + 1, listed, a, b, w, hsz, hR, h => by
    rw [show f + 1 + g = (f + g) + 1 by omega]
    refine ⟨fun h0 => absurd h0 h.1, fun i hi => ?_⟩
    obtain ⟨hin, hop⟩ := h.2 i hi
    have hun := (mem_ready.1 hi).1
    obtain ⟨_, oi, hoi, _⟩ := mem_ready.1 hi
    have hil : i < ops.size := (Array.getElem?_eq_some_iff.1 hoi).1
    have hsz' : (listed.setIfInBounds i true).size = ops.size := by simp [hsz]
    have hrec : ∀ a' b' w', Rel k ok.dst R0 R1 (listed.setIfInBounds i true) a' b' w' → wpH P md ops Rc (Does P ok R0 R1) k n L f (listed.setIfInBounds i true) a' → wpAny P md ops Q' (f + g) (listed.setIfInBounds i true) b' w' := fun a' b' w' hr hh => wpAny_of_H hkn h00 h11 h0 h1 hsel hap hL f _ a' b' w' hsz' hr hh
    unfold Rel at hR
    by_cases hik : i = k
    · subst hik
      obtain ⟨hok, hgu⟩ := hkn hin
      have hf : listed.getD i false = false := getD_both hun
      rw [hf] at hR
      simp only [Bool.false_eq_true, if_false] at hR
      obtain ⟨rfl, hR0⟩ := hR
      unfold gOp at hop
      rw [if_pos rfl] at hop
      unfold wpOp
      simp only [hok]
      rw [if_pos (by unfold Region.wanted; rw [hgu])]
      refine .inl ?_
      have ha := hop.1 w hR0
      unfold Oper.wp at ha ⊢
      have fin : ∀ a' w', (∃ v, a' = b.put ok.dst v ∧ R1 v w') → wpAny P md ops Q' (f + g) (listed.setIfInBounds i true) a' w' := fun a' w' hu => by
        obtain ⟨v, rfl, hv⟩ := hu
        refine hrec b _ _ ?_ hop.2
        unfold Rel
        rw [if_pos (by simp [hsz, hil])]
        exact ⟨v, rfl, hv⟩
      refine upon_map (a := b) (b := b) (fun u w' hu => fin _ _ hu) (fun dd w' hu => fin _ _ hu) ha
    · obtain hap' := hap i oi hoi hin hik
      have hl' : ∀ t, ok.dst = some t → t ∉ oi.looksAt ops := fun t ht => (hap' t ht).1
      have hn' : ∀ t, ok.dst = some t → oi.dst ≠ some t := fun t ht => (hap' t ht).2
      unfold gOp at hop
      rw [if_neg hik] at hop
      simp only [hoi] at hop
      have hkeep : (listed.setIfInBounds i true).getD k false = listed.getD k false := getD_set_ne false hik
      by_cases hkl : listed.getD k false = true
      · rw [if_pos hkl] at hR
        obtain ⟨v, rfl, hnew⟩ := hR
        have hwp := wanted_put oi a ok.dst v hl'
        by_cases hw : Region.wanted oi (yielded ops a.tmps) = true
        · rw [if_pos hw] at hop
          obtain ⟨u, hu, hK⟩ := hop
          refine wpOp_of_gAt hoi (by rw [hwp]; exact hw) (gAt_put (a := a) (ops := ops) (hsel i oi · · hoi) hl' hn' (hu w (h1 v w hnew))) fun w' hgw => ?_
          refine hrec (a.put oi.dst u) _ _ ?_ hK
          unfold Rel
          rw [hkeep, if_pos hkl]
          exact ⟨v, Act.put_comm a v u hn', h11 v w w' hnew hgw⟩
        · rw [if_neg hw] at hop
          unfold wpOp
          simp only [hoi]
          rw [if_neg (by rw [hwp]; exact hw)]
          refine hrec (a.put oi.dst undef) _ _ ?_ hop
          unfold Rel
          rw [hkeep, if_pos hkl]
          exact ⟨v, Act.put_comm a v undef hn', hnew⟩
      · rw [if_neg hkl] at hR
        obtain ⟨rfl, hR0⟩ := hR
        by_cases hw : Region.wanted oi (yielded ops b.tmps) = true
        · rw [if_pos hw] at hop
          obtain ⟨u, hu, hK⟩ := hop
          refine wpOp_of_gAt hoi hw (hu w (h0 w hR0)) fun w' hgw => ?_
          refine hrec (b.put oi.dst u) _ _ ?_ hK
          unfold Rel
          rw [hkeep, if_neg hkl]
          exact ⟨rfl, h00 w w' hR0 hgw⟩
        · rw [if_neg hw] at hop
          unfold wpOp
          simp only [hoi]
          rw [if_neg hw]
          refine hrec (b.put oi.dst undef) _ _ ?_ hop
          unfold Rel
          rw [hkeep, if_neg hkl]
          exact ⟨rfl, hR0⟩
def headB (ops : Array Oper) (n k : Nat) (d : Option Tmp) : Bool :=
  Region.lexTailB .any ops n && (List.range n).all fun j => j == k || match d, ops[j]? with | some t, some o => !(o.looksAt ops).contains t && o.dst != some t | _, _ => true
theorem wp_region_headX {id : Nat} {Q : Exit → Act → World → Prop} {a : Act} {w : World} {l : List Oper} (n k : Nat) (ok : Oper) (Rc R0 : World → Prop) (R1 : Value → World → Prop) (hm : P.follows .mixedOrders = true) (hB : headB l.toArray n k ok.dst = true) (hsl : ∀ cs b, ok.op ≠ .select cs b)
    (hk : ∀ o, l.toArray[k]? = some o → o = ok ∧ o.guard = none)
    (h00 : ∀ w w', R0 w → Gr w w' → R0 w') (h11 : ∀ v w w', R1 v w → Gr w w' → R1 v w') (h0 : ∀ w, R0 w → Rc w) (h1 : ∀ v w, R1 v w → Rc w) (hw : R0 w)
    (h' : ∀ K : Act → Prop, (∀ a', (∀ b w', (if k < n then ∃ v, b = a'.put ok.dst v ∧ R1 v w' else b = a' ∧ R0 w') → wpList P l.toArray Q (l.drop n) b w') → K a') → wpG P l.toArray Rc (Does P ok R0 R1) k K (l.take n) 0 a) : (Code.region id l.toArray true).wp P Q a w := by
  have h := h' (fun a' => ∀ b w', (if k < n then ∃ v, b = a'.put ok.dst v ∧ R1 v w' else b = a' ∧ R0 w') → wpList P l.toArray Q (l.drop n) b w') (fun a' x => x)
  simp only [headB, Region.lexTailB, Bool.and_eq_true, decide_eq_true_eq] at hB
  obtain ⟨⟨⟨⟨⟨hsel, hn⟩, hs⟩, hc⟩, hlex⟩, hap⟩ := hB
  have hn' : n < l.length := by simpa using hn
  have htl : (l.take n).length = n := by simp; omega
  have hdl : (l.drop n).length = l.toArray.size - n := by simp
  have inv0 : HeadInv .any l.toArray n (Array.replicate l.toArray.size false) :=
    ⟨by simp, fun j oj _ hl => (by rw [getD_replicate_false] at hl; cases hl), fun t _ ht => getD_in (by simpa using ht) (getD_replicate_false _ _)⟩
  have hkn : k < n → l.toArray[k]? = some ok ∧ ok.guard = none := fun h => by
    have hlt : k < l.toArray.size := by omega
    have e := Array.getElem?_eq_getElem hlt
    obtain ⟨h1, h2⟩ := hk _ e
    rw [← h1]
    exact ⟨e, h2⟩
  have H := wpH_lex (md := .any) (g := l.toArray.size - n) (k := k) (Pk := Does P ok R0 R1) (fun oi o a v ho hap2 hD => by
    rw [(hk o ho).1] at hap2
    exact Does.unput hsl (Oper.apart_spec hap2).1 hD) (fun o oj a v ho hap2 hD => by
    rw [(hk o ho).1] at hap2
    exact Does.put hsl (Oper.apart_spec hap2).2.2 (fun t h1 h2 => (Oper.apart_spec hap2).2.1 t h2 h1) hD) hsel hs hc hn (l.take n) 0 _ a (fun j hj => by
    have hj' : j < n := by rw [htl] at hj; exact hj
    simp [hj']) (by simpa using htl) inv0 (fun j => by rw [getD_replicate_false]; simp) (by simp) (by rw [htl]; exact hlex) h
  rw [htl] at H
  refine wp_region_any hm ?_
  have hw0 : Gr w { w with drawn := w.drawn + 1 } := (Below.refl _ _).drew
  have := wpAny_of_H (Q' := Q) (g := l.toArray.size - n) (ok := ok) (R0 := R0) (R1 := R1) hkn h00 h11 h0 h1 (Region.noSelect_spec hsel) (fun j o ho hj hjk t ht => by
      have := List.all_eq_true.1 hap j (List.mem_range.2 hj)
      simp only [ho, ht, Bool.or_eq_true, beq_iff_eq, hjk, false_or, Bool.and_eq_true] at this
      simpa using this) (fun listed a' b' w' hL hR => by
    have hq : wpList P l.toArray Q (l.drop n) b' w' := by
      refine hL.2 b' w' ?_
      have h2 := hR
      unfold Rel at h2
      rw [hL.1.2] at h2
      simpa using h2
    have := wpAny_of_seq (md := .any) (Q' := Q) (l.drop n) n listed b' w' (fun j => by simp [List.getElem?_drop]) (by rw [hdl]; exact hL.1.1) hq
    rwa [hdl] at this) n _ a a { w with drawn := w.drawn + 1 } (by simp) (by unfold Rel; rw [getD_replicate_false]; simp; exact h00 _ _ hw hw0) H
  rw [show n + (l.toArray.size - n) = l.toArray.size by omega] at this
  exact this
theorem wpG_any {Q : Act → Prop} {Pk' : Act → Prop} : ∀ (l : List Oper) (i : Nat) (a : Act), i + l.length ≤ k → wpG P ops Rc Pk k Q l i a → wpG P ops Rc Pk' k Q l i a
  | [], _, _, _, h => h
  | o :: l, i, a, hl, h => by
    simp only [List.length_cons] at hl
    have hik : i ≠ k := by omega
    unfold wpG at h ⊢
    rw [if_neg hik] at h ⊢
    split
    · rename_i hw
      rw [if_pos hw] at h
      obtain ⟨v, h1, h2⟩ := h
      exact ⟨v, h1, wpG_any l (i + 1) _ (by omega) h2⟩
    · rename_i hw
      rw [if_neg hw] at h
      exact wpG_any l (i + 1) _ (by omega) h
theorem wp_region_head0 {id : Nat} {Q : Exit → Act → World → Prop} {a : Act} {w : World} {l : List Oper} (n : Nat) (Rc : World → Prop) (hm : P.follows .mixedOrders = true) (hB : headB l.toArray n l.length none = true)
    (h00 : ∀ w w', Rc w → Gr w w' → Rc w') (hw : Rc w)
    (h' : ∀ K : Act → Prop, (∀ a', (∀ w', Rc w' → wpList P l.toArray Q (l.drop n) a' w') → K a') → wpG P l.toArray Rc (fun _ => True) l.length K (l.take n) 0 a) : (Code.region id l.toArray true).wp P Q a w := by
  have hn : n < l.length := by
    simp only [headB, Region.lexTailB, Bool.and_eq_true, decide_eq_true_eq] at hB
    simpa using hB.1.1.1.1.2
  refine wp_region_headX n l.length (Oper.mk none (.move (.const undef)) 0 "" #[] none) Rc Rc (fun _ _ => False) hm hB (by intro _ _ h; cases h) (fun o ho => by simp at ho) h00 (fun _ _ _ h => h.elim) (fun _ h => h) (fun _ _ h => h.elim) hw fun K hK => ?_
  refine wpG_any (Pk := fun _ => True) _ _ _ (by simp; omega) ?_
  exact h' K fun a' ha => hK a' fun b w' hb => by
    rw [if_neg (by omega)] at hb
    obtain ⟨rfl, hb⟩ := hb
    exact ha w' hb
theorem wpG_want {Q : Act → Prop} {o : Oper} {rest : List Oper} {i : Nat} {a : Act} (hi : i ≠ k) (hw : Region.wanted o (yielded ops a.tmps) = true) (h : ∃ v, (∀ w, Rc w → gAt P o a w v) ∧ wpG P ops Rc Pk k Q rest (i + 1) (a.put o.dst v)) : wpG P ops Rc Pk k Q (o :: rest) i a := by
  unfold wpG; rw [if_neg hi, if_pos hw]; exact h
theorem wpG_nil {Q : Act → Prop} {i : Nat} {a : Act} (h : Q a) : wpG P ops Rc Pk k Q [] i a := h
theorem gAt_of_quiet {o : Oper} {a : Act} {w1 : World} {v : Value} (h : ∀ K : Act → Prop, (∀ a', a' = a.put o.dst v → K a') → o.quiet P a (fun w' => ∃ m, w' = spread w1 m) K) : gAt P o a w1 v := by
  obtain ⟨u, hu, he⟩ := h (fun a' => a' = a.put o.dst v) (fun a' h => h)
  have h1 := hu w1 ⟨⟨w1.drawn, #[]⟩, by simp [spread]⟩
  unfold gAt Oper.wp
  unfold Oper.quietAt at h1
  revert h1
  generalize (execOp a.eval o).run P w1 = r
  intro h1
  cases r with
  | ok x w' =>
    cases x with
    | value x => obtain ⟨rfl, rfl⟩ := h1; exact ⟨he, Below.refl _ _⟩
    | skip => obtain ⟨rfl, rfl⟩ := h1; exact ⟨he, Below.refl _ _⟩
    | enter f args =>
      obtain ⟨rfl, h1⟩ := h1
      refine Calls.mono h1 fun e w'' hw => ?_
      obtain ⟨rfl, m, rfl⟩ := hw
      exact ⟨he, gr_spread _ _⟩
    | _ => exact h1.elim
  | halt x w' => exact h1.elim
end Go.Proofs.YtfobmlgpjhghdaaDoor.Hd
namespace Go.Proofs.YtfobmlgpjhghdaaDoor
set_option linter.unusedVariables false
open Go.ChangeShapes Go.WideShapes Go.ChangeAt Go.RowKit
namespace Hd
variable {P : Program}
theorem wp_region_tail {id : Nat} {Q : Exit → Act → World → Prop} {a : Act} {w : World} {l : List Oper} (n : Nat) (hm : P.follows .mixedOrders = true) (hB : headB l.toArray n l.length none = true)
    (h' : ∀ K : Act → Prop, (∀ a', (∀ w', (∃ m, w' = spread w m) → wpList P l.toArray Q (l.drop n) a' w') → K a') → wpG P l.toArray (fun w' => ∃ m, w' = spread w m) (fun _ => True) l.length K (l.take n) 0 a) : (Code.region id l.toArray true).wp P Q a w :=
  wp_region_head0 n (fun w' => ∃ m, w' = spread w m) hm hB (by rintro _ _ ⟨m, rfl⟩ g; exact spread_gr g) ⟨⟨w.drawn, #[]⟩, by simp [spread]⟩ h'
theorem gr_of_spread {w w' : World} (h : ∃ m, w' = spread w m) : Gr w w' := by
  obtain ⟨m, rfl⟩ := h
  exact gr_spread _ _
end Hd
end Go.Proofs.YtfobmlgpjhghdaaDoor
namespace Go.Proofs.YtfobmlgpjhghdaaDoor
set_option linter.unusedVariables false
open Go.ChangeShapes Go.WideShapes Go.ChangeAt Go.RowKit
section
variable {P : Program} {w : World} {r : Reach} {base : Nat} {t : TypeId} {v : Value}
theorem open_cells {fs : Array Field} {us : List TypeId} {n : Nat} (ht : P.underlying t = some (.struct fs)) (hts : P.cellTypes P.depth t = some us) (hn : us.length = n) (hc : P.cellsOf t = n) (h : Value.okWide P w r base t v) :
    ∃ cs : Array Value, v = .agg cs ∧ cs.size = n ∧ ∀ (i : Nat) u k, us[i]? = some u → P.underlying u = some (.int k) → ∃ z, cs[i]? = some (.int k z) ∧ k.has z := by
  simp only [Value.okWide, ht] at h
  obtain ⟨cs, rfl, hs, ts, hts', -, hall⟩ := h
  rw [hts] at hts'
  obtain rfl := Option.some.inj hts'
  refine ⟨cs, rfl, by rw [hs, hc], fun i u k hu hk => ?_⟩
  have hlt : i < us.length := by
    rcases Nat.lt_or_ge i us.length with h | h
    · exact h
    · rw [List.getElem?_eq_none h] at hu; cases hu
  have hi : i < cs.size := by rw [hs, hc, ← hn]; exact hlt
  obtain ⟨u', hu', hok⟩ := hall i cs[i] (by simp [hi])
  rw [Nat.mod_eq_of_lt hlt, hu] at hu'
  obtain rfl := Option.some.inj hu'
  simp only [Cell.okWide, hk] at hok
  have hok' : Cell.ok P w r base u cs[i] := by
    cases hcs : cs[i] <;> simp_all
  simp only [Cell.ok, hk] at hok'
  cases hcs : cs[i] <;> simp only [hcs] at hok' <;> try exact hok'.elim
  obtain ⟨rfl, hb⟩ := hok'
  exact ⟨_, by simp [hi, hcs], hb⟩
theorem i64_has {z : Int} (h : IntKind.i64.has z) : -9223372036854775808 ≤ z ∧ z ≤ 9223372036854775807 := h
theorem open_box {fs : Array Field} {u : TypeId} (ht : P.underlying t = some (.struct fs)) (hts : P.cellTypes P.depth t = some [u, u, u, u]) (hc : P.cellsOf t = 4) (hu : P.underlying u = some (.int .i64)) (h : Value.okWide P w r base t v) :
    ∃ x y z q : Int, v = .agg #[.int .i64 x, .int .i64 y, .int .i64 z, .int .i64 q] ∧ (-9223372036854775808 ≤ x ∧ x ≤ 9223372036854775807) ∧ (-9223372036854775808 ≤ y ∧ y ≤ 9223372036854775807) ∧ (-9223372036854775808 ≤ z ∧ z ≤ 9223372036854775807) ∧ (-9223372036854775808 ≤ q ∧ q ≤ 9223372036854775807) := by
  obtain ⟨cs, rfl, hs, hi⟩ := open_cells (n := 4) ht hts rfl hc h
  obtain ⟨x, hx, bx⟩ := hi 0 u .i64 rfl hu
  obtain ⟨y, hy, by'⟩ := hi 1 u .i64 rfl hu
  obtain ⟨z, hz, bz⟩ := hi 2 u .i64 rfl hu
  obtain ⟨q, hq, bq⟩ := hi 3 u .i64 rfl hu
  refine ⟨x, y, z, q, ?_, i64_has bx, i64_has by', i64_has bz, i64_has bq⟩
  congr 1
  apply Array.ext_getElem?
  intro i
  match i with
  | 0 => exact hx
  | 1 => exact hy
  | 2 => exact hz
  | 3 => exact hq
  | k + 4 => rw [Array.getElem?_eq_none (by omega), Array.getElem?_eq_none (by simp)]
end
end Go.Proofs.YtfobmlgpjhghdaaDoor
namespace Go.Proofs.YtfobmlgpjhghdaaDoor.Hm
set_option linter.unusedVariables false
set_option linter.unusedSimpArgs false
open Go.ChangeShapes Go.WideShapes Go.ChangeAt Go.RowKit Go.Proofs.YtfobmlgpjhghdaaDoor.Hd
variable {P : Program} {ops : Array Oper} {md : Region.Mode} {Rc : World → Prop} {Pk : Nat → Act → Prop} {sp : Nat → Bool} {n : Nat}
end Go.Proofs.YtfobmlgpjhghdaaDoor.Hm
namespace Go.Proofs.YtfobmlgpjhghdaaDoor
set_option linter.unusedVariables false
open Go.ChangeShapes Go.WideShapes Go.ChangeAt Go.RowKit
end Go.Proofs.YtfobmlgpjhghdaaDoor
namespace Go.Proofs.YtfobmlgpjhghdaaDoor
set_option linter.unusedVariables false
open Go.ChangeShapes Go.WideShapes Go.ChangeAt Go.RowKit
def nearB (x y : Int) : Bool := decide (-1073741823 ≤ x) && decide (x ≤ 1073741823) && decide (-1073741823 ≤ y) && decide (y ≤ 1073741823)
theorem nearB_iff {x y : Int} : nearB x y = true ↔ -1073741823 ≤ x ∧ x ≤ 1073741823 ∧ -1073741823 ≤ y ∧ y ≤ 1073741823 := by
  unfold nearB; simp [and_assoc]
theorem c_near (x y : Int) (w : World) :
    Calls Tryd.prog 59 #[.agg #[.int .i64 x, .int .i64 y]] w fun e w' => e = .returned (.bool (nearB x y)) ∧ Gr w w' := by
  by_cases h1 : -1073741823 ≤ x
  · by_cases h2 : x ≤ 1073741823
    · by_cases h3 : -1073741823 ≤ y
      · by_cases h4 : y ≤ 1073741823
        · have e : nearB x y = true := nearB_iff.2 ⟨h1, h2, h3, h4⟩
          rw [e]
          go_enter Tryd.func59, Tryd.ntmps59
          go_wp2
          go_ret
          exact ⟨rfl, by go_grown⟩
        · have e : nearB x y = false := by unfold nearB; simp [h4]
          rw [e]
          go_enter Tryd.func59, Tryd.ntmps59
          go_wp2
          go_ret
          exact ⟨rfl, by go_grown⟩
      · have e : nearB x y = false := by unfold nearB; simp [h3]
        rw [e]
        go_enter Tryd.func59, Tryd.ntmps59
        go_wp2
        go_ret
        exact ⟨rfl, by go_grown⟩
    · have e : nearB x y = false := by unfold nearB; simp [h2]
      rw [e]
      go_enter Tryd.func59, Tryd.ntmps59
      go_wp2
      go_ret
      exact ⟨rfl, by go_grown⟩
  · have e : nearB x y = false := by unfold nearB; simp [h1]
    rw [e]
    go_enter Tryd.func59, Tryd.ntmps59
    go_wp2
    go_ret
    exact ⟨rfl, by go_grown⟩
def allB (X Y : Nat → Int) : Nat → Bool
  | 0 => true
  | n + 1 => allB X Y n && nearB (X n) (Y n)
theorem allB_iff (X Y : Nat → Int) (n : Nat) : allB X Y n = true ↔ ∀ k, k < n → nearB (X k) (Y k) = true := by
  induction n with
  | zero => simp [allB]
  | succ n ih =>
    simp only [allB, Bool.and_eq_true, ih]
    constructor
    · rintro ⟨h1, h2⟩ k hk
      rcases Nat.lt_succ_iff_lt_or_eq.1 hk with h | rfl
      · exact h1 k h
      · exact h2
    · intro h
      exact ⟨fun k hk => h k (by omega), h n (by omega)⟩
theorem c_allNear (n : Nat) (X Y : Nat → Int) (b : Nat) (w : World) (hn : n ≤ 100) (hb : b < w.heap.size)
    (hc : ∀ k, k < n → w.cell? ⟨b, k * 2, none⟩ = some (.int .i64 (X k)) ∧ w.cell? ⟨b, k * 2 + 1, none⟩ = some (.int .i64 (Y k))) :
    Calls Tryd.prog 84 #[.slice (some ⟨b, 0, none⟩) n n] w fun e w' => e = .returned (.bool (allB X Y n)) ∧ Gr w w' := by
  go_enter Tryd.func84, Tryd.ntmps84
  go_wp2_with fail
  go_loopg [7] n (fun k v wr => ∃ i : Nat, i ≤ n ∧ k = n - i ∧ v = .int .i64 i ∧ allB X Y i = true ∧ Gr w wr)
  case atStart => exact ⟨0, by omega, by omega, rfl, rfl, Gr.of_eq rfl⟩
  case round =>
    obtain ⟨i, hi, hk, rfl, hall, hg⟩ := hrel
    by_cases h : i < n
    · have ti : decide ((i : Int) < (n : Int)) = true := decide_eq_true (by omega)
      have ti2 : decide (i < n) = true := decide_eq_true h
      have c0 := cell_gr hg (hc i h).1
      have c1 := cell_gr hg (hc i h).2
      obtain ⟨q, hq⟩ : ∃ q, q = nearB (X i) (Y i) := ⟨_, rfl⟩
      have hN := Lib.hid (c_near (X i) (Y i))
      rw [← hq] at hN
      cases q
      · have e : allB X Y n = false := by
          rw [← Bool.not_eq_true, allB_iff]
          intro H
          rw [H i h] at hq
          cases hq
        have HE := Lib.hid e
        clear hall e hq hc
        go_wp2_with (go_at_call 59; (with_reducible refine (hN.out _).mono ?_); rintro e w' ⟨rfl, hg1⟩)
        go_ret
        exact ⟨by rw [HE.out]; rfl, Gr.trans (Gr.trans hg (by go_grown)) hg1⟩
      · have e : allB X Y (i + 1) = true := by simp only [allB, hall, ← hq]; rfl
        have HE := Lib.hid e
        clear hall e hq hc
        go_wp2_with (go_at_call 59; (with_reducible refine (hN.out _).mono ?_); rintro e w' ⟨rfl, hg1⟩)
        go_roundg (n - (i + 1))
        case measure => omega
        case rel => exact ⟨i + 1, by omega, rfl, by go_num, HE.out, Gr.trans (Gr.trans hg (by go_grown)) hg1⟩
    · have e : i = n := by omega
      subst e
      go_wp2_with fail
      go_ret
      exact ⟨by simp [hall], hg⟩
end Go.Proofs.YtfobmlgpjhghdaaDoor
namespace Go.Proofs.YtfobmlgpjhghdaaDoor
set_option linter.unusedVariables false
open Go.ChangeShapes Go.WideShapes Go.ChangeAt Go.RowKit
theorem mul_near {x y : Int} (hx : -2147483646 ≤ x ∧ x ≤ 2147483646) (hy : -2147483646 ≤ y ∧ y ≤ 2147483646) : -4611686009837453316 ≤ x * y ∧ x * y ≤ 4611686009837453316 := by
  have h1 : x.natAbs * y.natAbs ≤ 2147483646 * 2147483646 := Nat.mul_le_mul (by omega) (by omega)
  have h2 : (x * y).natAbs = x.natAbs * y.natAbs := Int.natAbs_mul x y
  omega
def crossZ (ax ay bx by' cx cy : Int) : Int := if nearB ax ay && nearB bx by' && nearB cx cy then (bx - ax) * (cy - ay) - (by' - ay) * (cx - ax) else 0
theorem c_rPoint (x y : Int) (w : World) :
    Calls Tryd.prog 18 #[.agg #[.int .i64 x, .int .i64 y]] w fun e w' => e = .returned (.bool (nearB x y)) ∧ Gr w w' := by
  by_cases h1 : -1073741823 ≤ x
  · by_cases h2 : x ≤ 1073741823
    · by_cases h3 : -1073741823 ≤ y
      · by_cases h4 : y ≤ 1073741823
        · have e : nearB x y = true := nearB_iff.2 ⟨h1, h2, h3, h4⟩
          rw [e]
          go_enter Tryd.func18, Tryd.ntmps18
          go_wp2
          go_ret
          exact ⟨rfl, by go_grown⟩
        · have e : nearB x y = false := by unfold nearB; simp [h4]
          rw [e]
          go_enter Tryd.func18, Tryd.ntmps18
          go_wp2
          go_ret
          exact ⟨rfl, by go_grown⟩
      · have e : nearB x y = false := by unfold nearB; simp [h3]
        rw [e]
        go_enter Tryd.func18, Tryd.ntmps18
        go_wp2
        go_ret
        exact ⟨rfl, by go_grown⟩
    · have e : nearB x y = false := by unfold nearB; simp [h2]
      rw [e]
      go_enter Tryd.func18, Tryd.ntmps18
      go_wp2
      go_ret
      exact ⟨rfl, by go_grown⟩
  · have e : nearB x y = false := by unfold nearB; simp [h1]
    rw [e]
    go_enter Tryd.func18, Tryd.ntmps18
    go_wp2
    go_ret
    exact ⟨rfl, by go_grown⟩
def cmpZ (a b : Int) : Int := if a < b then -1 else if b < a then 1 else 0
theorem cmpZ_lt {a b : Int} (h : a < b) : cmpZ a b = -1 := if_pos h
theorem cmpZ_gt {a b : Int} (h : b < a) : cmpZ a b = 1 := by unfold cmpZ; rw [if_neg (by omega), if_pos h]
theorem cmpZ_eq (a : Int) : cmpZ a a = 0 := by unfold cmpZ; simp
theorem c_cmpInt (a b : Int) (w : World) :
    Calls Tryd.prog 81 #[.int .i64 a, .int .i64 b] w fun e w' => e = .returned (.int .i64 (cmpZ a b)) ∧ Gr w w' := by
  rcases Int.lt_trichotomy a b with h | h | h
  · rw [cmpZ_lt h]
    have h2 : ¬ b < a := by omega
    go_enter Tryd.func81, Tryd.ntmps81
    go_wp2
    go_ret
    exact ⟨rfl, by go_grown⟩
  · subst h
    rw [cmpZ_eq]
    go_enter Tryd.func81, Tryd.ntmps81
    go_wp2
    go_ret
    exact ⟨rfl, by go_grown⟩
  · rw [cmpZ_gt h]
    have h2 : ¬ a < b := by omega
    go_enter Tryd.func81, Tryd.ntmps81
    go_wp2
    go_ret
    exact ⟨rfl, by go_grown⟩
theorem c_allNear3 (ax ay bx by' cx cy : Int) (b : Nat) (w : World) (hb : b < w.heap.size)
    (k0 : w.cell? ⟨b, 0, none⟩ = some (.int .i64 ax)) (k1 : w.cell? ⟨b, 1, none⟩ = some (.int .i64 ay)) (k2 : w.cell? ⟨b, 2, none⟩ = some (.int .i64 bx)) (k3 : w.cell? ⟨b, 3, none⟩ = some (.int .i64 by'))
    (k4 : w.cell? ⟨b, 4, none⟩ = some (.int .i64 cx)) (k5 : w.cell? ⟨b, 5, none⟩ = some (.int .i64 cy)) :
    Calls Tryd.prog 84 #[.slice (some ⟨b, 0, none⟩) 3 3] w fun e w' => e = .returned (.bool (nearB ax ay && nearB bx by' && nearB cx cy)) ∧ Gr w w' := by
  have h := c_allNear 3 (fun k => [ax, bx, cx].getD k 0) (fun k => [ay, by', cy].getD k 0) b w (by omega) hb (fun k hk => by
    rcases (by omega : k = 0 ∨ k = 1 ∨ k = 2) with rfl | rfl | rfl
    · exact ⟨k0, k1⟩
    · exact ⟨k2, k3⟩
    · exact ⟨k4, k5⟩)
  have e : allB (fun k => [ax, bx, cx].getD k 0) (fun k => [ay, by', cy].getD k 0) 3 = (nearB ax ay && nearB bx by' && nearB cx cy) := by simp [allB]
  rw [e] at h
  exact h
set_option maxRecDepth 100000 in
theorem c_Cross (ax ay bx by' cx cy : Int) (W : World) :
    Calls Tryd.prog 82 #[.agg #[.int .i64 ax, .int .i64 ay], .agg #[.int .i64 bx, .int .i64 by'], .agg #[.int .i64 cx, .int .i64 cy]] W fun e w' => e = .returned (.int .i64 (crossZ ax ay bx by' cx cy)) ∧ Gr W w' := by
  obtain ⟨q, hq⟩ : ∃ q, q = (nearB ax ay && nearB bx by' && nearB cx cy) := ⟨_, rfl⟩
  have HA : ∀ b w, b < w.heap.size → w.cell? ⟨b, 0, none⟩ = some (.int .i64 ax) → w.cell? ⟨b, 1, none⟩ = some (.int .i64 ay) → w.cell? ⟨b, 2, none⟩ = some (.int .i64 bx) → w.cell? ⟨b, 3, none⟩ = some (.int .i64 by') → w.cell? ⟨b, 4, none⟩ = some (.int .i64 cx) → w.cell? ⟨b, 5, none⟩ = some (.int .i64 cy) →
      Calls Tryd.prog 84 #[.slice (some ⟨b, 0, none⟩) 3 3] w fun e w' => e = .returned (.bool q) ∧ Gr w w' := fun b w hb k0 k1 k2 k3 k4 k5 => by
    rw [hq]
    exact c_allNear3 ax ay bx by' cx cy b w hb k0 k1 k2 k3 k4 k5
  have H := Lib.hid HA
  clear HA
  unfold crossZ
  rw [← hq]
  cases q
  · clear hq
    go_enter Tryd.func82, Tryd.ntmps82
    go_wp2_with fail
    go_at_call 84
    refine ((H.out _ _ (by go_simp) (by go_simp) (by go_simp) (by go_simp) (by go_simp) (by go_simp) (by go_simp))).mono ?_
    rintro e w1 ⟨rfl, hw1⟩
    have cw1_0_0 : w1.cell? ⟨W.heap.size, 0, none⟩ = some (.int .i64 ax) := cell_gr hw1 (by go_simp)
    have cw1_0_1 : w1.cell? ⟨W.heap.size, 1, none⟩ = some (.int .i64 ay) := cell_gr hw1 (by go_simp)
    have zw1_0 : W.heap.size < w1.heap.size := World.block_lt_of_cell? _ _ cw1_0_0
    have cw1_1_0 : w1.cell? ⟨W.heap.size + 1, 0, none⟩ = some (.int .i64 bx) := cell_gr hw1 (by go_simp)
    have cw1_1_1 : w1.cell? ⟨W.heap.size + 1, 1, none⟩ = some (.int .i64 by') := cell_gr hw1 (by go_simp)
    have zw1_1 : W.heap.size + 1 < w1.heap.size := World.block_lt_of_cell? _ _ cw1_1_0
    have cw1_2_0 : w1.cell? ⟨W.heap.size + 1 + 1, 0, none⟩ = some (.int .i64 cx) := cell_gr hw1 (by go_simp)
    have cw1_2_1 : w1.cell? ⟨W.heap.size + 1 + 1, 1, none⟩ = some (.int .i64 cy) := cell_gr hw1 (by go_simp)
    have zw1_2 : W.heap.size + 1 + 1 < w1.heap.size := World.block_lt_of_cell? _ _ cw1_2_0
    have gw1 : Gr W w1 := Gr.trans (by go_grown) hw1
    clear hw1
    go_wp2_with fail
    go_ret
    exact ⟨rfl, by go_grown⟩
  · have hq' : (nearB ax ay = true ∧ nearB bx by' = true) ∧ nearB cx cy = true := by simpa using hq.symm
    have n1 := nearB_iff.1 hq'.1.1
    have n2 := nearB_iff.1 hq'.1.2
    have n3 := nearB_iff.1 hq'.2
    have m1 := mul_near (x := bx - ax) (y := cy - ay) (by omega) (by omega)
    have m2 := mul_near (x := by' - ay) (y := cx - ax) (by omega) (by omega)
    obtain ⟨p1, hp1⟩ : ∃ p, p = (bx - ax) * (cy - ay) := ⟨_, rfl⟩
    obtain ⟨p2, hp2⟩ : ∃ p, p = (by' - ay) * (cx - ax) := ⟨_, rfl⟩
    rw [← hp1] at m1
    rw [← hp2] at m2
    have e1 : wrap64 (bx - ax) = bx - ax := IntWalk.wrap64_in _ (by omega)
    have e2 : wrap64 (cy - ay) = cy - ay := IntWalk.wrap64_in _ (by omega)
    have e3 : wrap64 (by' - ay) = by' - ay := IntWalk.wrap64_in _ (by omega)
    have e4 : wrap64 (cx - ax) = cx - ax := IntWalk.wrap64_in _ (by omega)
    have e5 : wrap64 ((bx - ax) * (cy - ay)) = p1 := by rw [← hp1]; exact IntWalk.wrap64_in _ (by omega)
    have e6 : wrap64 ((by' - ay) * (cx - ax)) = p2 := by rw [← hp2]; exact IntWalk.wrap64_in _ (by omega)
    have e7 : wrap64 (p1 - p2) = p1 - p2 := IntWalk.wrap64_in _ (by omega)
    have f1 : IntKind.i64.wrap (bx - ax) = bx - ax := IntWalk.i64_in _ (by omega)
    have f2 : IntKind.i64.wrap (cy - ay) = cy - ay := IntWalk.i64_in _ (by omega)
    have f3 : IntKind.i64.wrap (by' - ay) = by' - ay := IntWalk.i64_in _ (by omega)
    have f4 : IntKind.i64.wrap (cx - ax) = cx - ax := IntWalk.i64_in _ (by omega)
    have f5 : IntKind.i64.wrap ((bx - ax) * (cy - ay)) = p1 := by rw [← hp1]; exact IntWalk.i64_in _ (by omega)
    have f6 : IntKind.i64.wrap ((by' - ay) * (cx - ax)) = p2 := by rw [← hp2]; exact IntWalk.i64_in _ (by omega)
    have f7 : IntKind.i64.wrap (p1 - p2) = p1 - p2 := IntWalk.i64_in _ (by omega)
    rw [← hp1, ← hp2]
    clear hq hq' n1 n2 n3 m1 m2 hp1 hp2
    go_enter Tryd.func82, Tryd.ntmps82
    go_wp2_with fail
    go_at_call 84
    refine ((H.out _ _ (by go_simp) (by go_simp) (by go_simp) (by go_simp) (by go_simp) (by go_simp) (by go_simp))).mono ?_
    rintro e w1 ⟨rfl, hw1⟩
    have cw1_0_0 : w1.cell? ⟨W.heap.size, 0, none⟩ = some (.int .i64 ax) := cell_gr hw1 (by go_simp)
    have cw1_0_1 : w1.cell? ⟨W.heap.size, 1, none⟩ = some (.int .i64 ay) := cell_gr hw1 (by go_simp)
    have zw1_0 : W.heap.size < w1.heap.size := World.block_lt_of_cell? _ _ cw1_0_0
    have cw1_1_0 : w1.cell? ⟨W.heap.size + 1, 0, none⟩ = some (.int .i64 bx) := cell_gr hw1 (by go_simp)
    have cw1_1_1 : w1.cell? ⟨W.heap.size + 1, 1, none⟩ = some (.int .i64 by') := cell_gr hw1 (by go_simp)
    have zw1_1 : W.heap.size + 1 < w1.heap.size := World.block_lt_of_cell? _ _ cw1_1_0
    have cw1_2_0 : w1.cell? ⟨W.heap.size + 1 + 1, 0, none⟩ = some (.int .i64 cx) := cell_gr hw1 (by go_simp)
    have cw1_2_1 : w1.cell? ⟨W.heap.size + 1 + 1, 1, none⟩ = some (.int .i64 cy) := cell_gr hw1 (by go_simp)
    have zw1_2 : W.heap.size + 1 + 1 < w1.heap.size := World.block_lt_of_cell? _ _ cw1_2_0
    have gw1 : Gr W w1 := Gr.trans (by go_grown) hw1
    clear hw1
    go_wp2_with fail
    go_ret
    exact ⟨rfl, by go_grown⟩
end Go.Proofs.YtfobmlgpjhghdaaDoor
namespace Go.Proofs.YtfobmlgpjhghdaaDoor
set_option linter.unusedVariables false
open Go.ChangeShapes Go.WideShapes Go.ChangeAt Go.RowKit
def boxB (lx ly hx hy : Int) : Bool := nearB lx ly && nearB hx hy && decide (lx ≤ hx) && decide (ly ≤ hy)
theorem sq_nonneg (x : Int) : 0 ≤ x * x := by
  rcases Int.le_total 0 x with h | h
  · exact Int.mul_nonneg h h
  · exact Int.mul_nonneg_of_nonpos_of_nonpos h h
def boxErr (lx ly hx hy : Int) : Value := if nearB lx ly && nearB hx hy then (if decide (lx ≤ hx) && decide (ly ≤ hy) then .nilIface else .iface 72 (.int .i64 1)) else .iface 72 (.int .i64 2)
theorem c_Orient (ax ay bx by' cx cy : Int) (w : World) :
    Calls Tryd.prog 80 #[.agg #[.int .i64 ax, .int .i64 ay], .agg #[.int .i64 bx, .int .i64 by'], .agg #[.int .i64 cx, .int .i64 cy]] w fun e w' => e = .returned (.int .i64 (cmpZ (crossZ ax ay bx by' cx cy) 0)) ∧ Gr w w' := by
  go_enter Tryd.func80, Tryd.ntmps80
  go_wp2_with (first | (go_at_call 82; (with_reducible refine (c_Cross ax ay bx by' cx cy _).mono ?_); rintro e w' ⟨rfl, hg⟩) | (go_at_call 81; (with_reducible refine (c_cmpInt _ _ _).mono ?_); rintro e w'' ⟨rfl, hg2⟩))
  go_ret
  exact ⟨rfl, Gr.trans (Gr.trans (by go_grown) hg) hg2⟩
theorem c_CheckBox (lx ly hx hy : Int) (W : World) :
    Calls Tryd.prog 40 #[.agg #[.int .i64 lx, .int .i64 ly, .int .i64 hx, .int .i64 hy]] W fun e w' => e = .returned (boxErr lx ly hx hy) ∧ Gr W w' := by
  have H1 := Lib.hid (c_near lx ly)
  have H2 := Lib.hid (c_near hx hy)
  obtain ⟨q, hq⟩ : ∃ q, q = nearB lx ly := ⟨_, rfl⟩
  obtain ⟨r, hr⟩ : ∃ r, r = nearB hx hy := ⟨_, rfl⟩
  unfold boxErr
  rw [← hq] at H1 ⊢
  rw [← hr] at H2 ⊢
  have T1 : decide (lx ≤ hx) = !decide (hx < lx) := by by_cases h : hx < lx <;> simp [h] <;> omega
  have T2 : decide (ly ≤ hy) = !decide (hy < ly) := by by_cases h : hy < ly <;> simp [h] <;> omega
  rw [T1, T2]
  clear T1 T2 hq hr
  cases q
  · simp only [Bool.false_and, Bool.false_eq_true, if_false]
    go_enter Tryd.func40, Tryd.ntmps40
    go_wp2_with fail
    go_at_call 59
    refine ((H1.out _)).mono ?_
    rintro e w1 ⟨rfl, hw1⟩
    have cw1_0_0 : w1.cell? ⟨W.heap.size, 0, none⟩ = some (.int .i64 lx) := cell_gr hw1 (by go_simp)
    have cw1_0_1 : w1.cell? ⟨W.heap.size, 1, none⟩ = some (.int .i64 ly) := cell_gr hw1 (by go_simp)
    have cw1_0_2 : w1.cell? ⟨W.heap.size, 2, none⟩ = some (.int .i64 hx) := cell_gr hw1 (by go_simp)
    have cw1_0_3 : w1.cell? ⟨W.heap.size, 3, none⟩ = some (.int .i64 hy) := cell_gr hw1 (by go_simp)
    have zw1_0 : W.heap.size < w1.heap.size := World.block_lt_of_cell? _ _ cw1_0_0
    have gw1 : Gr W w1 := Gr.trans (by go_grown) hw1
    clear hw1
    go_wp2_with fail
    go_ret
    exact ⟨rfl, by go_grown⟩
  · cases r
    · simp only [Bool.and_false, Bool.false_eq_true, if_false]
      go_enter Tryd.func40, Tryd.ntmps40
      go_wp2_with fail
      go_at_call 59
      refine ((H1.out _)).mono ?_
      rintro e w1 ⟨rfl, hw1⟩
      have cw1_0_0 : w1.cell? ⟨W.heap.size, 0, none⟩ = some (.int .i64 lx) := cell_gr hw1 (by go_simp)
      have cw1_0_1 : w1.cell? ⟨W.heap.size, 1, none⟩ = some (.int .i64 ly) := cell_gr hw1 (by go_simp)
      have cw1_0_2 : w1.cell? ⟨W.heap.size, 2, none⟩ = some (.int .i64 hx) := cell_gr hw1 (by go_simp)
      have cw1_0_3 : w1.cell? ⟨W.heap.size, 3, none⟩ = some (.int .i64 hy) := cell_gr hw1 (by go_simp)
      have zw1_0 : W.heap.size < w1.heap.size := World.block_lt_of_cell? _ _ cw1_0_0
      have gw1 : Gr W w1 := Gr.trans (by go_grown) hw1
      clear hw1
      go_wp2_with fail
      go_at_call 59
      refine ((H2.out _)).mono ?_
      rintro e w2 ⟨rfl, hw2⟩
      have cw2_0_0 : w2.cell? ⟨W.heap.size, 0, none⟩ = some (.int .i64 lx) := cell_gr hw2 (by go_simp)
      have cw2_0_1 : w2.cell? ⟨W.heap.size, 1, none⟩ = some (.int .i64 ly) := cell_gr hw2 (by go_simp)
      have cw2_0_2 : w2.cell? ⟨W.heap.size, 2, none⟩ = some (.int .i64 hx) := cell_gr hw2 (by go_simp)
      have cw2_0_3 : w2.cell? ⟨W.heap.size, 3, none⟩ = some (.int .i64 hy) := cell_gr hw2 (by go_simp)
      have zw2_0 : W.heap.size < w2.heap.size := World.block_lt_of_cell? _ _ cw2_0_0
      have gw2 : Gr W w2 := Gr.trans (by have gg := gw1; have gs := gg.size; go_grown) hw2
      clear hw2 gw1 zw1_0 cw1_0_0 cw1_0_1 cw1_0_2 cw1_0_3
      go_wp2_with fail
      go_ret
      exact ⟨rfl, by go_grown⟩
    · simp only [Bool.and_true, if_true]
      by_cases a1 : hx < lx
      · simp only [a1, decide_true, Bool.not_true, Bool.false_and, Bool.false_eq_true, if_false]
        have b1 : ¬ lx ≤ hx := by omega
        go_enter Tryd.func40, Tryd.ntmps40
        go_wp2_with fail
        go_at_call 59
        refine ((H1.out _)).mono ?_
        rintro e w1 ⟨rfl, hw1⟩
        have cw1_0_0 : w1.cell? ⟨W.heap.size, 0, none⟩ = some (.int .i64 lx) := cell_gr hw1 (by go_simp)
        have cw1_0_1 : w1.cell? ⟨W.heap.size, 1, none⟩ = some (.int .i64 ly) := cell_gr hw1 (by go_simp)
        have cw1_0_2 : w1.cell? ⟨W.heap.size, 2, none⟩ = some (.int .i64 hx) := cell_gr hw1 (by go_simp)
        have cw1_0_3 : w1.cell? ⟨W.heap.size, 3, none⟩ = some (.int .i64 hy) := cell_gr hw1 (by go_simp)
        have zw1_0 : W.heap.size < w1.heap.size := World.block_lt_of_cell? _ _ cw1_0_0
        have gw1 : Gr W w1 := Gr.trans (by go_grown) hw1
        clear hw1
        go_wp2_with fail
        go_at_call 59
        refine ((H2.out _)).mono ?_
        rintro e w2 ⟨rfl, hw2⟩
        have cw2_0_0 : w2.cell? ⟨W.heap.size, 0, none⟩ = some (.int .i64 lx) := cell_gr hw2 (by go_simp)
        have cw2_0_1 : w2.cell? ⟨W.heap.size, 1, none⟩ = some (.int .i64 ly) := cell_gr hw2 (by go_simp)
        have cw2_0_2 : w2.cell? ⟨W.heap.size, 2, none⟩ = some (.int .i64 hx) := cell_gr hw2 (by go_simp)
        have cw2_0_3 : w2.cell? ⟨W.heap.size, 3, none⟩ = some (.int .i64 hy) := cell_gr hw2 (by go_simp)
        have zw2_0 : W.heap.size < w2.heap.size := World.block_lt_of_cell? _ _ cw2_0_0
        have gw2 : Gr W w2 := Gr.trans (by have gg := gw1; have gs := gg.size; go_grown) hw2
        clear hw2 gw1 zw1_0 cw1_0_0 cw1_0_1 cw1_0_2 cw1_0_3
        go_wp2_with fail
        go_ret
        exact ⟨rfl, by go_grown⟩
      · by_cases a2 : hy < ly
        · simp only [a1, a2, decide_true, decide_false, Bool.not_true, Bool.not_false, Bool.true_and, Bool.false_eq_true, if_false]
          go_enter Tryd.func40, Tryd.ntmps40
          go_wp2_with fail
          go_at_call 59
          refine ((H1.out _)).mono ?_
          rintro e w1 ⟨rfl, hw1⟩
          have cw1_0_0 : w1.cell? ⟨W.heap.size, 0, none⟩ = some (.int .i64 lx) := cell_gr hw1 (by go_simp)
          have cw1_0_1 : w1.cell? ⟨W.heap.size, 1, none⟩ = some (.int .i64 ly) := cell_gr hw1 (by go_simp)
          have cw1_0_2 : w1.cell? ⟨W.heap.size, 2, none⟩ = some (.int .i64 hx) := cell_gr hw1 (by go_simp)
          have cw1_0_3 : w1.cell? ⟨W.heap.size, 3, none⟩ = some (.int .i64 hy) := cell_gr hw1 (by go_simp)
          have zw1_0 : W.heap.size < w1.heap.size := World.block_lt_of_cell? _ _ cw1_0_0
          have gw1 : Gr W w1 := Gr.trans (by go_grown) hw1
          clear hw1
          go_wp2_with fail
          go_at_call 59
          refine ((H2.out _)).mono ?_
          rintro e w2 ⟨rfl, hw2⟩
          have cw2_0_0 : w2.cell? ⟨W.heap.size, 0, none⟩ = some (.int .i64 lx) := cell_gr hw2 (by go_simp)
          have cw2_0_1 : w2.cell? ⟨W.heap.size, 1, none⟩ = some (.int .i64 ly) := cell_gr hw2 (by go_simp)
          have cw2_0_2 : w2.cell? ⟨W.heap.size, 2, none⟩ = some (.int .i64 hx) := cell_gr hw2 (by go_simp)
          have cw2_0_3 : w2.cell? ⟨W.heap.size, 3, none⟩ = some (.int .i64 hy) := cell_gr hw2 (by go_simp)
          have zw2_0 : W.heap.size < w2.heap.size := World.block_lt_of_cell? _ _ cw2_0_0
          have gw2 : Gr W w2 := Gr.trans (by have gg := gw1; have gs := gg.size; go_grown) hw2
          clear hw2 gw1 zw1_0 cw1_0_0 cw1_0_1 cw1_0_2 cw1_0_3
          go_wp2_with fail
          go_ret
          exact ⟨rfl, by go_grown⟩
        · simp only [a1, a2, decide_false, Bool.not_false, Bool.and_self, if_true]
          go_enter Tryd.func40, Tryd.ntmps40
          go_wp2_with fail
          go_at_call 59
          refine ((H1.out _)).mono ?_
          rintro e w1 ⟨rfl, hw1⟩
          have cw1_0_0 : w1.cell? ⟨W.heap.size, 0, none⟩ = some (.int .i64 lx) := cell_gr hw1 (by go_simp)
          have cw1_0_1 : w1.cell? ⟨W.heap.size, 1, none⟩ = some (.int .i64 ly) := cell_gr hw1 (by go_simp)
          have cw1_0_2 : w1.cell? ⟨W.heap.size, 2, none⟩ = some (.int .i64 hx) := cell_gr hw1 (by go_simp)
          have cw1_0_3 : w1.cell? ⟨W.heap.size, 3, none⟩ = some (.int .i64 hy) := cell_gr hw1 (by go_simp)
          have zw1_0 : W.heap.size < w1.heap.size := World.block_lt_of_cell? _ _ cw1_0_0
          have gw1 : Gr W w1 := Gr.trans (by go_grown) hw1
          clear hw1
          go_wp2_with fail
          go_at_call 59
          refine ((H2.out _)).mono ?_
          rintro e w2 ⟨rfl, hw2⟩
          have cw2_0_0 : w2.cell? ⟨W.heap.size, 0, none⟩ = some (.int .i64 lx) := cell_gr hw2 (by go_simp)
          have cw2_0_1 : w2.cell? ⟨W.heap.size, 1, none⟩ = some (.int .i64 ly) := cell_gr hw2 (by go_simp)
          have cw2_0_2 : w2.cell? ⟨W.heap.size, 2, none⟩ = some (.int .i64 hx) := cell_gr hw2 (by go_simp)
          have cw2_0_3 : w2.cell? ⟨W.heap.size, 3, none⟩ = some (.int .i64 hy) := cell_gr hw2 (by go_simp)
          have zw2_0 : W.heap.size < w2.heap.size := World.block_lt_of_cell? _ _ cw2_0_0
          have gw2 : Gr W w2 := Gr.trans (by have gg := gw1; have gs := gg.size; go_grown) hw2
          clear hw2 gw1 zw1_0 cw1_0_0 cw1_0_1 cw1_0_2 cw1_0_3
          go_wp2_with fail
          go_ret
          exact ⟨rfl, by go_grown⟩
end Go.Proofs.YtfobmlgpjhghdaaDoor
namespace Go.Proofs.YtfobmlgpjhghdaaDoor
set_option linter.unusedVariables false
open Go.ChangeShapes Go.WideShapes Go.ChangeAt Go.RowKit
theorem boxErr_true {lx ly hx hy : Int} (h : boxB lx ly hx hy = true) : boxErr lx ly hx hy = .nilIface := by
  unfold boxB at h
  unfold boxErr
  rw [Bool.and_eq_true, Bool.and_eq_true] at h
  rw [if_pos h.1.1, if_pos]
  rw [h.1.2, h.2]; rfl
theorem boxErr_false {lx ly hx hy : Int} (h : boxB lx ly hx hy = false) : ∃ k : Int, boxErr lx ly hx hy = .iface 72 (.int .i64 k) := by
  unfold boxB at h
  unfold boxErr
  by_cases h1 : (nearB lx ly && nearB hx hy) = true
  · rw [if_pos h1]
    by_cases h2 : (decide (lx ≤ hx) && decide (ly ≤ hy)) = true
    · rw [h1, Bool.true_and, h2] at h
      cases h
    · rw [if_neg h2]
      exact ⟨_, rfl⟩
  · rw [if_neg h1]
    exact ⟨_, rfl⟩
def allBox (A B C D : Nat → Int) : Nat → Bool
  | 0 => true
  | n + 1 => allBox A B C D n && boxB (A n) (B n) (C n) (D n)
theorem allBox_iff (A B C D : Nat → Int) (n : Nat) : allBox A B C D n = true ↔ ∀ k, k < n → boxB (A k) (B k) (C k) (D k) = true := by
  induction n with
  | zero => simp [allBox]
  | succ n ih =>
    simp only [allBox, Bool.and_eq_true, ih]
    constructor
    · rintro ⟨h1, h2⟩ k hk
      rcases Nat.lt_succ_iff_lt_or_eq.1 hk with h | rfl
      · exact h1 k h
      · exact h2
    · intro h
      exact ⟨fun k hk => h k (by omega), h n (by omega)⟩
theorem c_mayBe (n : Nat) (A B C D : Nat → Int) (b : Nat) (w : World) (hn : n ≤ 100) (hb : b < w.heap.size)
    (hc : ∀ k, k < n → w.cell? ⟨b, k * 4, none⟩ = some (.int .i64 (A k)) ∧ w.cell? ⟨b, k * 4 + 1, none⟩ = some (.int .i64 (B k)) ∧ w.cell? ⟨b, k * 4 + 2, none⟩ = some (.int .i64 (C k)) ∧ w.cell? ⟨b, k * 4 + 3, none⟩ = some (.int .i64 (D k))) :
    Calls Tryd.prog 47 #[.slice (some ⟨b, 0, none⟩) n n] w fun e w' => e = .returned (.bool (allBox A B C D n)) ∧ Gr w w' := by
  go_enter Tryd.func47, Tryd.ntmps47
  go_wp2_with fail
  go_loopg [7] n (fun k v wr => ∃ i : Nat, i ≤ n ∧ k = n - i ∧ v = .int .i64 i ∧ allBox A B C D i = true ∧ Gr w wr)
  case atStart => exact ⟨0, by omega, by omega, rfl, rfl, Gr.of_eq rfl⟩
  case round =>
    obtain ⟨i, hi, hk, rfl, hall, hg⟩ := hrel
    by_cases h : i < n
    · have ti : decide ((i : Int) < (n : Int)) = true := decide_eq_true (by omega)
      have ti2 : decide (i < n) = true := decide_eq_true h
      have c0 := cell_gr hg (hc i h).1
      have c1 := cell_gr hg (hc i h).2.1
      have c2 := cell_gr hg (hc i h).2.2.1
      have c3 := cell_gr hg (hc i h).2.2.2
      obtain ⟨q, hq⟩ : ∃ q, q = boxB (A i) (B i) (C i) (D i) := ⟨_, rfl⟩
      have hC := c_CheckBox (A i) (B i) (C i) (D i)
      cases q
      · have e : allBox A B C D n = false := by
          rw [← Bool.not_eq_true, allBox_iff]
          intro H
          rw [H i h] at hq
          cases hq
        have HE := Lib.hid e
        obtain ⟨z, hz⟩ := boxErr_false hq.symm
        rw [hz] at hC
        have hN := Lib.hid hC
        clear hall e hq hc hC hz
        go_wp2_with (go_at_call 40; (with_reducible refine (hN.out _).mono ?_); rintro e w' ⟨rfl, hg1⟩)
        go_ret
        exact ⟨by rw [HE.out]; rfl, Gr.trans (Gr.trans hg (by go_grown)) hg1⟩
      · have e : allBox A B C D (i + 1) = true := by simp only [allBox, hall, ← hq]; rfl
        have HE := Lib.hid e
        rw [boxErr_true hq.symm] at hC
        have hN := Lib.hid hC
        clear hall e hq hc hC
        go_wp2_with (go_at_call 40; (with_reducible refine (hN.out _).mono ?_); rintro e w' ⟨rfl, hg1⟩)
        go_roundg (n - (i + 1))
        case measure => omega
        case rel => exact ⟨i + 1, by omega, rfl, by go_num, HE.out, Gr.trans (Gr.trans hg (by go_grown)) hg1⟩
    · have e : i = n := by omega
      subst e
      go_wp2_with fail
      go_ret
      exact ⟨by simp [hall], hg⟩
theorem c_mayBe1 (lx ly hx hy : Int) (b : Nat) (w : World) (hb : b < w.heap.size)
    (k0 : w.cell? ⟨b, 0, none⟩ = some (.int .i64 lx)) (k1 : w.cell? ⟨b, 1, none⟩ = some (.int .i64 ly)) (k2 : w.cell? ⟨b, 2, none⟩ = some (.int .i64 hx)) (k3 : w.cell? ⟨b, 3, none⟩ = some (.int .i64 hy)) :
    Calls Tryd.prog 47 #[.slice (some ⟨b, 0, none⟩) 1 1] w fun e w' => e = .returned (.bool (boxB lx ly hx hy)) ∧ Gr w w' := by
  have h := c_mayBe 1 (fun _ => lx) (fun _ => ly) (fun _ => hx) (fun _ => hy) b w (by omega) hb (fun k hk => by
    obtain rfl : k = 0 := by omega
    exact ⟨k0, k1, k2, k3⟩)
  have e : allBox (fun _ => lx) (fun _ => ly) (fun _ => hx) (fun _ => hy) 1 = boxB lx ly hx hy := by simp [allBox]
  rw [e] at h
  exact h
theorem c_mayBe2 (lx ly hx hy mx my nx ny : Int) (b : Nat) (w : World) (hb : b < w.heap.size)
    (k0 : w.cell? ⟨b, 0, none⟩ = some (.int .i64 lx)) (k1 : w.cell? ⟨b, 1, none⟩ = some (.int .i64 ly)) (k2 : w.cell? ⟨b, 2, none⟩ = some (.int .i64 hx)) (k3 : w.cell? ⟨b, 3, none⟩ = some (.int .i64 hy))
    (k4 : w.cell? ⟨b, 4, none⟩ = some (.int .i64 mx)) (k5 : w.cell? ⟨b, 5, none⟩ = some (.int .i64 my)) (k6 : w.cell? ⟨b, 6, none⟩ = some (.int .i64 nx)) (k7 : w.cell? ⟨b, 7, none⟩ = some (.int .i64 ny)) :
    Calls Tryd.prog 47 #[.slice (some ⟨b, 0, none⟩) 2 2] w fun e w' => e = .returned (.bool (boxB lx ly hx hy && boxB mx my nx ny)) ∧ Gr w w' := by
  have h := c_mayBe 2 (fun k => [lx, mx].getD k 0) (fun k => [ly, my].getD k 0) (fun k => [hx, nx].getD k 0) (fun k => [hy, ny].getD k 0) b w (by omega) hb (fun k hk => by
    rcases (by omega : k = 0 ∨ k = 1) with rfl | rfl
    · exact ⟨k0, k1, k2, k3⟩
    · exact ⟨k4, k5, k6, k7⟩)
  have e : allBox (fun k => [lx, mx].getD k 0) (fun k => [ly, my].getD k 0) (fun k => [hx, nx].getD k 0) (fun k => [hy, ny].getD k 0) 2 = (boxB lx ly hx hy && boxB mx my nx ny) := by simp [allBox]
  rw [e] at h
  exact h
def inB (lx ly hx hy px py : Int) : Bool := decide (lx ≤ px) && decide (px ≤ hx) && decide (ly ≤ py) && decide (py ≤ hy)
theorem c_holds (lx ly hx hy px py : Int) (w : World) :
    Calls Tryd.prog 48 #[.agg #[.int .i64 lx, .int .i64 ly, .int .i64 hx, .int .i64 hy], .agg #[.int .i64 px, .int .i64 py]] w fun e w' => e = .returned (.bool (inB lx ly hx hy px py)) ∧ Gr w w' := by
  obtain ⟨q, hq⟩ : ∃ q, q = inB lx ly hx hy px py := ⟨_, rfl⟩
  rw [← hq]
  unfold inB at hq
  by_cases h1 : lx ≤ px
  · by_cases h2 : px ≤ hx
    · by_cases h3 : ly ≤ py
      · by_cases h4 : py ≤ hy
        · obtain rfl : q = true := by rw [hq]; simp [h1, h2, h3, h4]
          clear hq
          go_enter Tryd.func48, Tryd.ntmps48
          go_wp2
          go_ret
          exact ⟨rfl, by go_grown⟩
        · obtain rfl : q = false := by rw [hq]; simp [h4]
          clear hq
          go_enter Tryd.func48, Tryd.ntmps48
          go_wp2
          go_ret
          exact ⟨rfl, by go_grown⟩
      · obtain rfl : q = false := by rw [hq]; simp [h3]
        clear hq
        go_enter Tryd.func48, Tryd.ntmps48
        go_wp2
        go_ret
        exact ⟨rfl, by go_grown⟩
    · obtain rfl : q = false := by rw [hq]; simp [h2]
      clear hq
      go_enter Tryd.func48, Tryd.ntmps48
      go_wp2
      go_ret
      exact ⟨rfl, by go_grown⟩
  · obtain rfl : q = false := by rw [hq]; simp [h1]
    clear hq
    go_enter Tryd.func48, Tryd.ntmps48
    go_wp2
    go_ret
    exact ⟨rfl, by go_grown⟩
set_option maxHeartbeats 1000000 in
theorem c_Has (lx ly hx hy px py : Int) (W : World) :
    Calls Tryd.prog 74 #[.agg #[.int .i64 lx, .int .i64 ly, .int .i64 hx, .int .i64 hy], .agg #[.int .i64 px, .int .i64 py]] W fun e w' => e = .returned (.bool (boxB lx ly hx hy && nearB px py && inB lx ly hx hy px py)) ∧ Gr W w' := by
  obtain ⟨q1, e1⟩ : ∃ q, q = boxB lx ly hx hy := ⟨_, rfl⟩
  obtain ⟨q2, e2⟩ : ∃ q, q = nearB px py := ⟨_, rfl⟩
  obtain ⟨q3, e3⟩ : ∃ q, q = inB lx ly hx hy px py := ⟨_, rfl⟩
  have M : ∀ b w, b < w.heap.size → w.cell? ⟨b, 0, none⟩ = some (.int .i64 lx) → w.cell? ⟨b, 1, none⟩ = some (.int .i64 ly) → w.cell? ⟨b, 2, none⟩ = some (.int .i64 hx) → w.cell? ⟨b, 3, none⟩ = some (.int .i64 hy) →
      Calls Tryd.prog 47 #[.slice (some ⟨b, 0, none⟩) 1 1] w fun e w' => e = .returned (.bool q1) ∧ Gr w w' := fun b w hb k0 k1 k2 k3 => by
    rw [e1]; exact c_mayBe1 lx ly hx hy b w hb k0 k1 k2 k3
  have N := c_near px py
  have O := c_holds lx ly hx hy px py
  rw [← e1, ← e2, ← e3]
  rw [← e2] at N
  rw [← e3] at O
  have H1 := Lib.hid M
  have H2 := Lib.hid N
  have H3 := Lib.hid O
  clear M N O e1 e2 e3
  have hc : q1 = false ∨ (q1 = true ∧ q2 = false) ∨ (q1 = true ∧ q2 = true) := by cases q1 <;> cases q2 <;> simp
  rcases hc with rfl | ⟨rfl, rfl⟩ | ⟨rfl, rfl⟩
  · go_enter Tryd.func74, Tryd.ntmps74
    go_wp2_with fail
    go_at_call 47
    refine ((H1.out _ _ (by go_simp) (by go_simp) (by go_simp) (by go_simp) (by go_simp))).mono ?_
    rintro e w1 ⟨rfl, hw1⟩
    have cw1_0_0 : w1.cell? ⟨W.heap.size, 0, none⟩ = some (.int .i64 lx) := cell_gr hw1 (by go_simp)
    have cw1_0_1 : w1.cell? ⟨W.heap.size, 1, none⟩ = some (.int .i64 ly) := cell_gr hw1 (by go_simp)
    have cw1_0_2 : w1.cell? ⟨W.heap.size, 2, none⟩ = some (.int .i64 hx) := cell_gr hw1 (by go_simp)
    have cw1_0_3 : w1.cell? ⟨W.heap.size, 3, none⟩ = some (.int .i64 hy) := cell_gr hw1 (by go_simp)
    have zw1_0 : W.heap.size < w1.heap.size := World.block_lt_of_cell? _ _ cw1_0_0
    have cw1_1_0 : w1.cell? ⟨W.heap.size + 1, 0, none⟩ = some (.int .i64 px) := cell_gr hw1 (by go_simp)
    have cw1_1_1 : w1.cell? ⟨W.heap.size + 1, 1, none⟩ = some (.int .i64 py) := cell_gr hw1 (by go_simp)
    have zw1_1 : W.heap.size + 1 < w1.heap.size := World.block_lt_of_cell? _ _ cw1_1_0
    have gw1 : Gr W w1 := Gr.trans (by go_grown) hw1
    clear hw1
    go_wp2_with fail
    go_ret
    exact ⟨rfl, by go_grown⟩
  · go_enter Tryd.func74, Tryd.ntmps74
    go_wp2_with fail
    go_at_call 47
    refine ((H1.out _ _ (by go_simp) (by go_simp) (by go_simp) (by go_simp) (by go_simp))).mono ?_
    rintro e w1 ⟨rfl, hw1⟩
    have cw1_0_0 : w1.cell? ⟨W.heap.size, 0, none⟩ = some (.int .i64 lx) := cell_gr hw1 (by go_simp)
    have cw1_0_1 : w1.cell? ⟨W.heap.size, 1, none⟩ = some (.int .i64 ly) := cell_gr hw1 (by go_simp)
    have cw1_0_2 : w1.cell? ⟨W.heap.size, 2, none⟩ = some (.int .i64 hx) := cell_gr hw1 (by go_simp)
    have cw1_0_3 : w1.cell? ⟨W.heap.size, 3, none⟩ = some (.int .i64 hy) := cell_gr hw1 (by go_simp)
    have zw1_0 : W.heap.size < w1.heap.size := World.block_lt_of_cell? _ _ cw1_0_0
    have cw1_1_0 : w1.cell? ⟨W.heap.size + 1, 0, none⟩ = some (.int .i64 px) := cell_gr hw1 (by go_simp)
    have cw1_1_1 : w1.cell? ⟨W.heap.size + 1, 1, none⟩ = some (.int .i64 py) := cell_gr hw1 (by go_simp)
    have zw1_1 : W.heap.size + 1 < w1.heap.size := World.block_lt_of_cell? _ _ cw1_1_0
    have gw1 : Gr W w1 := Gr.trans (by go_grown) hw1
    clear hw1
    go_wp2_with fail
    go_at_call 59
    refine ((H2.out _)).mono ?_
    rintro e w2 ⟨rfl, hw2⟩
    have cw2_0_0 : w2.cell? ⟨W.heap.size, 0, none⟩ = some (.int .i64 lx) := cell_gr hw2 (by go_simp)
    have cw2_0_1 : w2.cell? ⟨W.heap.size, 1, none⟩ = some (.int .i64 ly) := cell_gr hw2 (by go_simp)
    have cw2_0_2 : w2.cell? ⟨W.heap.size, 2, none⟩ = some (.int .i64 hx) := cell_gr hw2 (by go_simp)
    have cw2_0_3 : w2.cell? ⟨W.heap.size, 3, none⟩ = some (.int .i64 hy) := cell_gr hw2 (by go_simp)
    have zw2_0 : W.heap.size < w2.heap.size := World.block_lt_of_cell? _ _ cw2_0_0
    have cw2_1_0 : w2.cell? ⟨W.heap.size + 1, 0, none⟩ = some (.int .i64 px) := cell_gr hw2 (by go_simp)
    have cw2_1_1 : w2.cell? ⟨W.heap.size + 1, 1, none⟩ = some (.int .i64 py) := cell_gr hw2 (by go_simp)
    have zw2_1 : W.heap.size + 1 < w2.heap.size := World.block_lt_of_cell? _ _ cw2_1_0
    have gw2 : Gr W w2 := Gr.trans (by have gg := gw1; have gs := gg.size; go_grown) hw2
    clear hw2 gw1 zw1_0 cw1_0_0 cw1_0_1 cw1_0_2 cw1_0_3 zw1_1 cw1_1_0 cw1_1_1
    go_wp2_with fail
    go_ret
    exact ⟨rfl, by go_grown⟩
  · go_enter Tryd.func74, Tryd.ntmps74
    go_wp2_with fail
    go_at_call 47
    refine ((H1.out _ _ (by go_simp) (by go_simp) (by go_simp) (by go_simp) (by go_simp))).mono ?_
    rintro e w1 ⟨rfl, hw1⟩
    have cw1_0_0 : w1.cell? ⟨W.heap.size, 0, none⟩ = some (.int .i64 lx) := cell_gr hw1 (by go_simp)
    have cw1_0_1 : w1.cell? ⟨W.heap.size, 1, none⟩ = some (.int .i64 ly) := cell_gr hw1 (by go_simp)
    have cw1_0_2 : w1.cell? ⟨W.heap.size, 2, none⟩ = some (.int .i64 hx) := cell_gr hw1 (by go_simp)
    have cw1_0_3 : w1.cell? ⟨W.heap.size, 3, none⟩ = some (.int .i64 hy) := cell_gr hw1 (by go_simp)
    have zw1_0 : W.heap.size < w1.heap.size := World.block_lt_of_cell? _ _ cw1_0_0
    have cw1_1_0 : w1.cell? ⟨W.heap.size + 1, 0, none⟩ = some (.int .i64 px) := cell_gr hw1 (by go_simp)
    have cw1_1_1 : w1.cell? ⟨W.heap.size + 1, 1, none⟩ = some (.int .i64 py) := cell_gr hw1 (by go_simp)
    have zw1_1 : W.heap.size + 1 < w1.heap.size := World.block_lt_of_cell? _ _ cw1_1_0
    have gw1 : Gr W w1 := Gr.trans (by go_grown) hw1
    clear hw1
    go_wp2_with fail
    go_at_call 59
    refine ((H2.out _)).mono ?_
    rintro e w2 ⟨rfl, hw2⟩
    have cw2_0_0 : w2.cell? ⟨W.heap.size, 0, none⟩ = some (.int .i64 lx) := cell_gr hw2 (by go_simp)
    have cw2_0_1 : w2.cell? ⟨W.heap.size, 1, none⟩ = some (.int .i64 ly) := cell_gr hw2 (by go_simp)
    have cw2_0_2 : w2.cell? ⟨W.heap.size, 2, none⟩ = some (.int .i64 hx) := cell_gr hw2 (by go_simp)
    have cw2_0_3 : w2.cell? ⟨W.heap.size, 3, none⟩ = some (.int .i64 hy) := cell_gr hw2 (by go_simp)
    have zw2_0 : W.heap.size < w2.heap.size := World.block_lt_of_cell? _ _ cw2_0_0
    have cw2_1_0 : w2.cell? ⟨W.heap.size + 1, 0, none⟩ = some (.int .i64 px) := cell_gr hw2 (by go_simp)
    have cw2_1_1 : w2.cell? ⟨W.heap.size + 1, 1, none⟩ = some (.int .i64 py) := cell_gr hw2 (by go_simp)
    have zw2_1 : W.heap.size + 1 < w2.heap.size := World.block_lt_of_cell? _ _ cw2_1_0
    have gw2 : Gr W w2 := Gr.trans (by have gg := gw1; have gs := gg.size; go_grown) hw2
    clear hw2 gw1 zw1_0 cw1_0_0 cw1_0_1 cw1_0_2 cw1_0_3 zw1_1 cw1_1_0 cw1_1_1
    go_wp2_with fail
    go_at_call 48
    refine ((H3.out _)).mono ?_
    rintro e w3 ⟨rfl, hw3⟩
    have cw3_0_0 : w3.cell? ⟨W.heap.size, 0, none⟩ = some (.int .i64 lx) := cell_gr hw3 (by go_simp)
    have cw3_0_1 : w3.cell? ⟨W.heap.size, 1, none⟩ = some (.int .i64 ly) := cell_gr hw3 (by go_simp)
    have cw3_0_2 : w3.cell? ⟨W.heap.size, 2, none⟩ = some (.int .i64 hx) := cell_gr hw3 (by go_simp)
    have cw3_0_3 : w3.cell? ⟨W.heap.size, 3, none⟩ = some (.int .i64 hy) := cell_gr hw3 (by go_simp)
    have zw3_0 : W.heap.size < w3.heap.size := World.block_lt_of_cell? _ _ cw3_0_0
    have cw3_1_0 : w3.cell? ⟨W.heap.size + 1, 0, none⟩ = some (.int .i64 px) := cell_gr hw3 (by go_simp)
    have cw3_1_1 : w3.cell? ⟨W.heap.size + 1, 1, none⟩ = some (.int .i64 py) := cell_gr hw3 (by go_simp)
    have zw3_1 : W.heap.size + 1 < w3.heap.size := World.block_lt_of_cell? _ _ cw3_1_0
    have gw3 : Gr W w3 := Gr.trans (by have gg := gw2; have gs := gg.size; go_grown) hw3
    clear hw3 gw2 zw2_0 cw2_0_0 cw2_0_1 cw2_0_2 cw2_0_3 zw2_1 cw2_1_0 cw2_1_1
    go_wp2_with fail
    go_ret
    exact ⟨rfl, by go_grown⟩
set_option maxHeartbeats 2000000 in
theorem c_Meets (lx ly hx hy mx my nx ny : Int) (W : World) :
    Calls Tryd.prog 50 #[.agg #[.int .i64 lx, .int .i64 ly, .int .i64 hx, .int .i64 hy], .agg #[.int .i64 mx, .int .i64 my, .int .i64 nx, .int .i64 ny]] W fun e w' => e = .returned (.bool (boxB lx ly hx hy && boxB mx my nx ny && decide (lx ≤ nx) && decide (mx ≤ hx) && decide (ly ≤ ny) && decide (my ≤ hy))) ∧ Gr W w' := by
  obtain ⟨q1, e1⟩ : ∃ q, q = (boxB lx ly hx hy && boxB mx my nx ny) := ⟨_, rfl⟩
  have M : ∀ b w, b < w.heap.size → w.cell? ⟨b, 0, none⟩ = some (.int .i64 lx) → w.cell? ⟨b, 1, none⟩ = some (.int .i64 ly) → w.cell? ⟨b, 2, none⟩ = some (.int .i64 hx) → w.cell? ⟨b, 3, none⟩ = some (.int .i64 hy) →
      w.cell? ⟨b, 4, none⟩ = some (.int .i64 mx) → w.cell? ⟨b, 5, none⟩ = some (.int .i64 my) → w.cell? ⟨b, 6, none⟩ = some (.int .i64 nx) → w.cell? ⟨b, 7, none⟩ = some (.int .i64 ny) →
      Calls Tryd.prog 47 #[.slice (some ⟨b, 0, none⟩) 2 2] w fun e w' => e = .returned (.bool q1) ∧ Gr w w' := fun b w hb k0 k1 k2 k3 k4 k5 k6 k7 => by
    rw [e1]; exact c_mayBe2 lx ly hx hy mx my nx ny b w hb k0 k1 k2 k3 k4 k5 k6 k7
  rw [← e1]
  obtain ⟨r, hr⟩ : ∃ r, r = (q1 && decide (lx ≤ nx) && decide (mx ≤ hx) && decide (ly ≤ ny) && decide (my ≤ hy)) := ⟨_, rfl⟩
  rw [← hr]
  have H1 := Lib.hid M
  clear M e1
  have hc : (q1 = false ∧ r = false) ∨ (q1 = true ∧ ¬ lx ≤ nx ∧ r = false) ∨ (q1 = true ∧ lx ≤ nx ∧ ¬ mx ≤ hx ∧ r = false) ∨ (q1 = true ∧ lx ≤ nx ∧ mx ≤ hx ∧ ¬ ly ≤ ny ∧ r = false) ∨ (q1 = true ∧ lx ≤ nx ∧ mx ≤ hx ∧ ly ≤ ny ∧ ¬ my ≤ hy ∧ r = false) ∨ (q1 = true ∧ lx ≤ nx ∧ mx ≤ hx ∧ ly ≤ ny ∧ my ≤ hy ∧ r = true) := by
    cases q1
    · left; exact ⟨rfl, by rw [hr]; rfl⟩
    · right
      by_cases a1 : lx ≤ nx <;> by_cases a2 : mx ≤ hx <;> by_cases a3 : ly ≤ ny <;> by_cases a4 : my ≤ hy <;> simp [hr, a1, a2, a3, a4]
  clear hr
  rcases hc with ⟨rfl, rfl⟩ | ⟨rfl, a1, rfl⟩ | ⟨rfl, a1, a2, rfl⟩ | ⟨rfl, a1, a2, a3, rfl⟩ | ⟨rfl, a1, a2, a3, a4, rfl⟩ | ⟨rfl, a1, a2, a3, a4, rfl⟩
  all_goals
    go_enter Tryd.func50, Tryd.ntmps50
    go_wp2_with fail
    go_at_call 47
    refine ((H1.out _ _ (by go_simp) (by go_simp) (by go_simp) (by go_simp) (by go_simp) (by go_simp) (by go_simp) (by go_simp) (by go_simp))).mono ?_
    rintro e w1 ⟨rfl, hw1⟩
    have cw1_0_0 : w1.cell? ⟨W.heap.size, 0, none⟩ = some (.int .i64 lx) := cell_gr hw1 (by go_simp)
    have cw1_0_1 : w1.cell? ⟨W.heap.size, 1, none⟩ = some (.int .i64 ly) := cell_gr hw1 (by go_simp)
    have cw1_0_2 : w1.cell? ⟨W.heap.size, 2, none⟩ = some (.int .i64 hx) := cell_gr hw1 (by go_simp)
    have cw1_0_3 : w1.cell? ⟨W.heap.size, 3, none⟩ = some (.int .i64 hy) := cell_gr hw1 (by go_simp)
    have zw1_0 : W.heap.size < w1.heap.size := World.block_lt_of_cell? _ _ cw1_0_0
    have cw1_1_0 : w1.cell? ⟨W.heap.size + 1, 0, none⟩ = some (.int .i64 mx) := cell_gr hw1 (by go_simp)
    have cw1_1_1 : w1.cell? ⟨W.heap.size + 1, 1, none⟩ = some (.int .i64 my) := cell_gr hw1 (by go_simp)
    have cw1_1_2 : w1.cell? ⟨W.heap.size + 1, 2, none⟩ = some (.int .i64 nx) := cell_gr hw1 (by go_simp)
    have cw1_1_3 : w1.cell? ⟨W.heap.size + 1, 3, none⟩ = some (.int .i64 ny) := cell_gr hw1 (by go_simp)
    have zw1_1 : W.heap.size + 1 < w1.heap.size := World.block_lt_of_cell? _ _ cw1_1_0
    have gw1 : Gr W w1 := Gr.trans (by go_grown) hw1
    clear hw1
    go_wp2_with fail
    go_ret
    exact ⟨by first | rfl | simp [a4], by go_grown⟩
set_option maxHeartbeats 1000000 in
theorem c_Inside (lx ly hx hy mx my nx ny : Int) (W : World) :
    Calls Tryd.prog 33 #[.agg #[.int .i64 lx, .int .i64 ly, .int .i64 hx, .int .i64 hy], .agg #[.int .i64 mx, .int .i64 my, .int .i64 nx, .int .i64 ny]] W fun e w' => e = .returned (.bool (boxB lx ly hx hy && boxB mx my nx ny && inB mx my nx ny lx ly && inB mx my nx ny hx hy)) ∧ Gr W w' := by
  obtain ⟨q1, e1⟩ : ∃ q, q = (boxB lx ly hx hy && boxB mx my nx ny) := ⟨_, rfl⟩
  obtain ⟨q2, e2⟩ : ∃ q, q = inB mx my nx ny lx ly := ⟨_, rfl⟩
  obtain ⟨q3, e3⟩ : ∃ q, q = inB mx my nx ny hx hy := ⟨_, rfl⟩
  have M : ∀ b w, b < w.heap.size → w.cell? ⟨b, 0, none⟩ = some (.int .i64 lx) → w.cell? ⟨b, 1, none⟩ = some (.int .i64 ly) → w.cell? ⟨b, 2, none⟩ = some (.int .i64 hx) → w.cell? ⟨b, 3, none⟩ = some (.int .i64 hy) →
      w.cell? ⟨b, 4, none⟩ = some (.int .i64 mx) → w.cell? ⟨b, 5, none⟩ = some (.int .i64 my) → w.cell? ⟨b, 6, none⟩ = some (.int .i64 nx) → w.cell? ⟨b, 7, none⟩ = some (.int .i64 ny) →
      Calls Tryd.prog 47 #[.slice (some ⟨b, 0, none⟩) 2 2] w fun e w' => e = .returned (.bool q1) ∧ Gr w w' := fun b w hb k0 k1 k2 k3 k4 k5 k6 k7 => by
    rw [e1]; exact c_mayBe2 lx ly hx hy mx my nx ny b w hb k0 k1 k2 k3 k4 k5 k6 k7
  have N := c_holds mx my nx ny lx ly
  have O := c_holds mx my nx ny hx hy
  rw [← e1, ← e2, ← e3]
  rw [← e2] at N
  rw [← e3] at O
  have H1 := Lib.hid M
  have H2 := Lib.hid N
  have H3 := Lib.hid O
  clear M N O e1 e2 e3
  have hc : q1 = false ∨ (q1 = true ∧ q2 = false) ∨ (q1 = true ∧ q2 = true) := by cases q1 <;> cases q2 <;> simp
  rcases hc with rfl | ⟨rfl, rfl⟩ | ⟨rfl, rfl⟩
  · go_enter Tryd.func33, Tryd.ntmps33
    go_wp2_with fail
    go_at_call 47
    refine ((H1.out _ _ (by go_simp) (by go_simp) (by go_simp) (by go_simp) (by go_simp) (by go_simp) (by go_simp) (by go_simp) (by go_simp))).mono ?_
    rintro e w1 ⟨rfl, hw1⟩
    have cw1_0_0 : w1.cell? ⟨W.heap.size, 0, none⟩ = some (.int .i64 lx) := cell_gr hw1 (by go_simp)
    have cw1_0_1 : w1.cell? ⟨W.heap.size, 1, none⟩ = some (.int .i64 ly) := cell_gr hw1 (by go_simp)
    have cw1_0_2 : w1.cell? ⟨W.heap.size, 2, none⟩ = some (.int .i64 hx) := cell_gr hw1 (by go_simp)
    have cw1_0_3 : w1.cell? ⟨W.heap.size, 3, none⟩ = some (.int .i64 hy) := cell_gr hw1 (by go_simp)
    have zw1_0 : W.heap.size < w1.heap.size := World.block_lt_of_cell? _ _ cw1_0_0
    have cw1_1_0 : w1.cell? ⟨W.heap.size + 1, 0, none⟩ = some (.int .i64 mx) := cell_gr hw1 (by go_simp)
    have cw1_1_1 : w1.cell? ⟨W.heap.size + 1, 1, none⟩ = some (.int .i64 my) := cell_gr hw1 (by go_simp)
    have cw1_1_2 : w1.cell? ⟨W.heap.size + 1, 2, none⟩ = some (.int .i64 nx) := cell_gr hw1 (by go_simp)
    have cw1_1_3 : w1.cell? ⟨W.heap.size + 1, 3, none⟩ = some (.int .i64 ny) := cell_gr hw1 (by go_simp)
    have zw1_1 : W.heap.size + 1 < w1.heap.size := World.block_lt_of_cell? _ _ cw1_1_0
    have gw1 : Gr W w1 := Gr.trans (by go_grown) hw1
    clear hw1
    go_wp2_with fail
    go_ret
    exact ⟨rfl, by go_grown⟩
  · go_enter Tryd.func33, Tryd.ntmps33
    go_wp2_with fail
    go_at_call 47
    refine ((H1.out _ _ (by go_simp) (by go_simp) (by go_simp) (by go_simp) (by go_simp) (by go_simp) (by go_simp) (by go_simp) (by go_simp))).mono ?_
    rintro e w1 ⟨rfl, hw1⟩
    have cw1_0_0 : w1.cell? ⟨W.heap.size, 0, none⟩ = some (.int .i64 lx) := cell_gr hw1 (by go_simp)
    have cw1_0_1 : w1.cell? ⟨W.heap.size, 1, none⟩ = some (.int .i64 ly) := cell_gr hw1 (by go_simp)
    have cw1_0_2 : w1.cell? ⟨W.heap.size, 2, none⟩ = some (.int .i64 hx) := cell_gr hw1 (by go_simp)
    have cw1_0_3 : w1.cell? ⟨W.heap.size, 3, none⟩ = some (.int .i64 hy) := cell_gr hw1 (by go_simp)
    have zw1_0 : W.heap.size < w1.heap.size := World.block_lt_of_cell? _ _ cw1_0_0
    have cw1_1_0 : w1.cell? ⟨W.heap.size + 1, 0, none⟩ = some (.int .i64 mx) := cell_gr hw1 (by go_simp)
    have cw1_1_1 : w1.cell? ⟨W.heap.size + 1, 1, none⟩ = some (.int .i64 my) := cell_gr hw1 (by go_simp)
    have cw1_1_2 : w1.cell? ⟨W.heap.size + 1, 2, none⟩ = some (.int .i64 nx) := cell_gr hw1 (by go_simp)
    have cw1_1_3 : w1.cell? ⟨W.heap.size + 1, 3, none⟩ = some (.int .i64 ny) := cell_gr hw1 (by go_simp)
    have zw1_1 : W.heap.size + 1 < w1.heap.size := World.block_lt_of_cell? _ _ cw1_1_0
    have gw1 : Gr W w1 := Gr.trans (by go_grown) hw1
    clear hw1
    go_wp2_with fail
    go_at_call 48
    refine ((H2.out _)).mono ?_
    rintro e w2 ⟨rfl, hw2⟩
    have cw2_0_0 : w2.cell? ⟨W.heap.size, 0, none⟩ = some (.int .i64 lx) := cell_gr hw2 (by go_simp)
    have cw2_0_1 : w2.cell? ⟨W.heap.size, 1, none⟩ = some (.int .i64 ly) := cell_gr hw2 (by go_simp)
    have cw2_0_2 : w2.cell? ⟨W.heap.size, 2, none⟩ = some (.int .i64 hx) := cell_gr hw2 (by go_simp)
    have cw2_0_3 : w2.cell? ⟨W.heap.size, 3, none⟩ = some (.int .i64 hy) := cell_gr hw2 (by go_simp)
    have zw2_0 : W.heap.size < w2.heap.size := World.block_lt_of_cell? _ _ cw2_0_0
    have cw2_1_0 : w2.cell? ⟨W.heap.size + 1, 0, none⟩ = some (.int .i64 mx) := cell_gr hw2 (by go_simp)
    have cw2_1_1 : w2.cell? ⟨W.heap.size + 1, 1, none⟩ = some (.int .i64 my) := cell_gr hw2 (by go_simp)
    have cw2_1_2 : w2.cell? ⟨W.heap.size + 1, 2, none⟩ = some (.int .i64 nx) := cell_gr hw2 (by go_simp)
    have cw2_1_3 : w2.cell? ⟨W.heap.size + 1, 3, none⟩ = some (.int .i64 ny) := cell_gr hw2 (by go_simp)
    have zw2_1 : W.heap.size + 1 < w2.heap.size := World.block_lt_of_cell? _ _ cw2_1_0
    have gw2 : Gr W w2 := Gr.trans (by have gg := gw1; have gs := gg.size; go_grown) hw2
    clear hw2 gw1 zw1_0 cw1_0_0 cw1_0_1 cw1_0_2 cw1_0_3 zw1_1 cw1_1_0 cw1_1_1 cw1_1_2 cw1_1_3
    go_wp2_with fail
    go_ret
    exact ⟨rfl, by go_grown⟩
  · go_enter Tryd.func33, Tryd.ntmps33
    go_wp2_with fail
    go_at_call 47
    refine ((H1.out _ _ (by go_simp) (by go_simp) (by go_simp) (by go_simp) (by go_simp) (by go_simp) (by go_simp) (by go_simp) (by go_simp))).mono ?_
    rintro e w1 ⟨rfl, hw1⟩
    have cw1_0_0 : w1.cell? ⟨W.heap.size, 0, none⟩ = some (.int .i64 lx) := cell_gr hw1 (by go_simp)
    have cw1_0_1 : w1.cell? ⟨W.heap.size, 1, none⟩ = some (.int .i64 ly) := cell_gr hw1 (by go_simp)
    have cw1_0_2 : w1.cell? ⟨W.heap.size, 2, none⟩ = some (.int .i64 hx) := cell_gr hw1 (by go_simp)
    have cw1_0_3 : w1.cell? ⟨W.heap.size, 3, none⟩ = some (.int .i64 hy) := cell_gr hw1 (by go_simp)
    have zw1_0 : W.heap.size < w1.heap.size := World.block_lt_of_cell? _ _ cw1_0_0
    have cw1_1_0 : w1.cell? ⟨W.heap.size + 1, 0, none⟩ = some (.int .i64 mx) := cell_gr hw1 (by go_simp)
    have cw1_1_1 : w1.cell? ⟨W.heap.size + 1, 1, none⟩ = some (.int .i64 my) := cell_gr hw1 (by go_simp)
    have cw1_1_2 : w1.cell? ⟨W.heap.size + 1, 2, none⟩ = some (.int .i64 nx) := cell_gr hw1 (by go_simp)
    have cw1_1_3 : w1.cell? ⟨W.heap.size + 1, 3, none⟩ = some (.int .i64 ny) := cell_gr hw1 (by go_simp)
    have zw1_1 : W.heap.size + 1 < w1.heap.size := World.block_lt_of_cell? _ _ cw1_1_0
    have gw1 : Gr W w1 := Gr.trans (by go_grown) hw1
    clear hw1
    go_wp2_with fail
    go_at_call 48
    refine ((H2.out _)).mono ?_
    rintro e w2 ⟨rfl, hw2⟩
    have cw2_0_0 : w2.cell? ⟨W.heap.size, 0, none⟩ = some (.int .i64 lx) := cell_gr hw2 (by go_simp)
    have cw2_0_1 : w2.cell? ⟨W.heap.size, 1, none⟩ = some (.int .i64 ly) := cell_gr hw2 (by go_simp)
    have cw2_0_2 : w2.cell? ⟨W.heap.size, 2, none⟩ = some (.int .i64 hx) := cell_gr hw2 (by go_simp)
    have cw2_0_3 : w2.cell? ⟨W.heap.size, 3, none⟩ = some (.int .i64 hy) := cell_gr hw2 (by go_simp)
    have zw2_0 : W.heap.size < w2.heap.size := World.block_lt_of_cell? _ _ cw2_0_0
    have cw2_1_0 : w2.cell? ⟨W.heap.size + 1, 0, none⟩ = some (.int .i64 mx) := cell_gr hw2 (by go_simp)
    have cw2_1_1 : w2.cell? ⟨W.heap.size + 1, 1, none⟩ = some (.int .i64 my) := cell_gr hw2 (by go_simp)
    have cw2_1_2 : w2.cell? ⟨W.heap.size + 1, 2, none⟩ = some (.int .i64 nx) := cell_gr hw2 (by go_simp)
    have cw2_1_3 : w2.cell? ⟨W.heap.size + 1, 3, none⟩ = some (.int .i64 ny) := cell_gr hw2 (by go_simp)
    have zw2_1 : W.heap.size + 1 < w2.heap.size := World.block_lt_of_cell? _ _ cw2_1_0
    have gw2 : Gr W w2 := Gr.trans (by have gg := gw1; have gs := gg.size; go_grown) hw2
    clear hw2 gw1 zw1_0 cw1_0_0 cw1_0_1 cw1_0_2 cw1_0_3 zw1_1 cw1_1_0 cw1_1_1 cw1_1_2 cw1_1_3
    go_wp2_with fail
    go_at_call 48
    refine ((H3.out _)).mono ?_
    rintro e w3 ⟨rfl, hw3⟩
    have cw3_0_0 : w3.cell? ⟨W.heap.size, 0, none⟩ = some (.int .i64 lx) := cell_gr hw3 (by go_simp)
    have cw3_0_1 : w3.cell? ⟨W.heap.size, 1, none⟩ = some (.int .i64 ly) := cell_gr hw3 (by go_simp)
    have cw3_0_2 : w3.cell? ⟨W.heap.size, 2, none⟩ = some (.int .i64 hx) := cell_gr hw3 (by go_simp)
    have cw3_0_3 : w3.cell? ⟨W.heap.size, 3, none⟩ = some (.int .i64 hy) := cell_gr hw3 (by go_simp)
    have zw3_0 : W.heap.size < w3.heap.size := World.block_lt_of_cell? _ _ cw3_0_0
    have cw3_1_0 : w3.cell? ⟨W.heap.size + 1, 0, none⟩ = some (.int .i64 mx) := cell_gr hw3 (by go_simp)
    have cw3_1_1 : w3.cell? ⟨W.heap.size + 1, 1, none⟩ = some (.int .i64 my) := cell_gr hw3 (by go_simp)
    have cw3_1_2 : w3.cell? ⟨W.heap.size + 1, 2, none⟩ = some (.int .i64 nx) := cell_gr hw3 (by go_simp)
    have cw3_1_3 : w3.cell? ⟨W.heap.size + 1, 3, none⟩ = some (.int .i64 ny) := cell_gr hw3 (by go_simp)
    have zw3_1 : W.heap.size + 1 < w3.heap.size := World.block_lt_of_cell? _ _ cw3_1_0
    have gw3 : Gr W w3 := Gr.trans (by have gg := gw2; have gs := gg.size; go_grown) hw3
    clear hw3 gw2 zw2_0 cw2_0_0 cw2_0_1 cw2_0_2 cw2_0_3 zw2_1 cw2_1_0 cw2_1_1 cw2_1_2 cw2_1_3
    go_wp2_with fail
    go_ret
    exact ⟨rfl, by go_grown⟩
def sqZ (ax ay bx by' : Int) : Int := (bx - ax) * (bx - ax) + (by' - ay) * (by' - ay)
end Go.Proofs.YtfobmlgpjhghdaaDoor
namespace Go.Proofs.YtfobmlgpjhghdaaDoor
set_option linter.unusedVariables false
open Go.ChangeShapes Go.WideShapes Go.ChangeAt Go.RowKit
theorem boxB_iff {lx ly hx hy : Int} : boxB lx ly hx hy = true ↔ (nearB lx ly = true ∧ nearB hx hy = true) ∧ lx ≤ hx ∧ ly ≤ hy := by
  unfold boxB
  simp [and_assoc]
end Go.Proofs.YtfobmlgpjhghdaaDoor
namespace Go.Proofs.YtfobmlgpjhghdaaDoor
set_option linter.unusedVariables false
open Go.ChangeShapes Go.WideShapes Go.ChangeAt Go.RowKit
def boxCode (lx ly hx hy : Int) : Int := if nearB lx ly && nearB hx hy then (if decide (lx ≤ hx) && decide (ly ≤ hy) then 0 else 1) else 2
theorem boxCode_zero {lx ly hx hy : Int} : (boxCode lx ly hx hy == 0) = boxB lx ly hx hy := by
  unfold boxCode boxB
  cases nearB lx ly <;> cases nearB hx hy <;> cases decide (lx ≤ hx) <;> cases decide (ly ≤ hy) <;> rfl
theorem c_rCheckBox (lx ly hx hy : Int) (W : World) :
    Calls Tryd.prog 6 #[.agg #[.int .i64 lx, .int .i64 ly, .int .i64 hx, .int .i64 hy]] W fun e w' => e = .returned (.int .i64 (boxCode lx ly hx hy)) ∧ Gr W w' := by
  have H1 := Lib.hid (c_rPoint lx ly)
  have H2 := Lib.hid (c_rPoint hx hy)
  obtain ⟨q, hq⟩ : ∃ q, q = nearB lx ly := ⟨_, rfl⟩
  obtain ⟨r, hr⟩ : ∃ r, r = nearB hx hy := ⟨_, rfl⟩
  unfold boxCode
  rw [← hq] at H1 ⊢
  rw [← hr] at H2 ⊢
  have T1 : decide (lx ≤ hx) = !decide (hx < lx) := by by_cases h : hx < lx <;> simp [h] <;> omega
  have T2 : decide (ly ≤ hy) = !decide (hy < ly) := by by_cases h : hy < ly <;> simp [h] <;> omega
  rw [T1, T2]
  clear T1 T2 hq hr
  cases q
  · simp only [Bool.false_and, Bool.false_eq_true, if_false]
    go_enter Tryd.func6, Tryd.ntmps6
    go_wp2_with fail
    go_at_call 18
    refine ((H1.out _)).mono ?_
    rintro e w1 ⟨rfl, hw1⟩
    have cw1_0_0 : w1.cell? ⟨W.heap.size, 0, none⟩ = some (.int .i64 lx) := cell_gr hw1 (by go_simp)
    have cw1_0_1 : w1.cell? ⟨W.heap.size, 1, none⟩ = some (.int .i64 ly) := cell_gr hw1 (by go_simp)
    have cw1_0_2 : w1.cell? ⟨W.heap.size, 2, none⟩ = some (.int .i64 hx) := cell_gr hw1 (by go_simp)
    have cw1_0_3 : w1.cell? ⟨W.heap.size, 3, none⟩ = some (.int .i64 hy) := cell_gr hw1 (by go_simp)
    have zw1_0 : W.heap.size < w1.heap.size := World.block_lt_of_cell? _ _ cw1_0_0
    have gw1 : Gr W w1 := Gr.trans (by go_grown) hw1
    clear hw1
    go_wp2_with fail
    go_ret
    exact ⟨rfl, by go_grown⟩
  · cases r
    · simp only [Bool.and_false, Bool.false_eq_true, if_false]
      go_enter Tryd.func6, Tryd.ntmps6
      go_wp2_with fail
      go_at_call 18
      refine ((H1.out _)).mono ?_
      rintro e w1 ⟨rfl, hw1⟩
      have cw1_0_0 : w1.cell? ⟨W.heap.size, 0, none⟩ = some (.int .i64 lx) := cell_gr hw1 (by go_simp)
      have cw1_0_1 : w1.cell? ⟨W.heap.size, 1, none⟩ = some (.int .i64 ly) := cell_gr hw1 (by go_simp)
      have cw1_0_2 : w1.cell? ⟨W.heap.size, 2, none⟩ = some (.int .i64 hx) := cell_gr hw1 (by go_simp)
      have cw1_0_3 : w1.cell? ⟨W.heap.size, 3, none⟩ = some (.int .i64 hy) := cell_gr hw1 (by go_simp)
      have zw1_0 : W.heap.size < w1.heap.size := World.block_lt_of_cell? _ _ cw1_0_0
      have gw1 : Gr W w1 := Gr.trans (by go_grown) hw1
      clear hw1
      go_wp2_with fail
      go_at_call 18
      refine ((H2.out _)).mono ?_
      rintro e w2 ⟨rfl, hw2⟩
      have cw2_0_0 : w2.cell? ⟨W.heap.size, 0, none⟩ = some (.int .i64 lx) := cell_gr hw2 (by go_simp)
      have cw2_0_1 : w2.cell? ⟨W.heap.size, 1, none⟩ = some (.int .i64 ly) := cell_gr hw2 (by go_simp)
      have cw2_0_2 : w2.cell? ⟨W.heap.size, 2, none⟩ = some (.int .i64 hx) := cell_gr hw2 (by go_simp)
      have cw2_0_3 : w2.cell? ⟨W.heap.size, 3, none⟩ = some (.int .i64 hy) := cell_gr hw2 (by go_simp)
      have zw2_0 : W.heap.size < w2.heap.size := World.block_lt_of_cell? _ _ cw2_0_0
      have gw2 : Gr W w2 := Gr.trans (by have gg := gw1; have gs := gg.size; go_grown) hw2
      clear hw2 gw1 zw1_0 cw1_0_0 cw1_0_1 cw1_0_2 cw1_0_3
      go_wp2_with fail
      go_ret
      exact ⟨rfl, by go_grown⟩
    · simp only [Bool.and_true, if_true]
      by_cases a1 : hx < lx
      · simp only [a1, decide_true, Bool.not_true, Bool.false_and, Bool.false_eq_true, if_false]
        have b1 : ¬ lx ≤ hx := by omega
        go_enter Tryd.func6, Tryd.ntmps6
        go_wp2_with fail
        go_at_call 18
        refine ((H1.out _)).mono ?_
        rintro e w1 ⟨rfl, hw1⟩
        have cw1_0_0 : w1.cell? ⟨W.heap.size, 0, none⟩ = some (.int .i64 lx) := cell_gr hw1 (by go_simp)
        have cw1_0_1 : w1.cell? ⟨W.heap.size, 1, none⟩ = some (.int .i64 ly) := cell_gr hw1 (by go_simp)
        have cw1_0_2 : w1.cell? ⟨W.heap.size, 2, none⟩ = some (.int .i64 hx) := cell_gr hw1 (by go_simp)
        have cw1_0_3 : w1.cell? ⟨W.heap.size, 3, none⟩ = some (.int .i64 hy) := cell_gr hw1 (by go_simp)
        have zw1_0 : W.heap.size < w1.heap.size := World.block_lt_of_cell? _ _ cw1_0_0
        have gw1 : Gr W w1 := Gr.trans (by go_grown) hw1
        clear hw1
        go_wp2_with fail
        go_at_call 18
        refine ((H2.out _)).mono ?_
        rintro e w2 ⟨rfl, hw2⟩
        have cw2_0_0 : w2.cell? ⟨W.heap.size, 0, none⟩ = some (.int .i64 lx) := cell_gr hw2 (by go_simp)
        have cw2_0_1 : w2.cell? ⟨W.heap.size, 1, none⟩ = some (.int .i64 ly) := cell_gr hw2 (by go_simp)
        have cw2_0_2 : w2.cell? ⟨W.heap.size, 2, none⟩ = some (.int .i64 hx) := cell_gr hw2 (by go_simp)
        have cw2_0_3 : w2.cell? ⟨W.heap.size, 3, none⟩ = some (.int .i64 hy) := cell_gr hw2 (by go_simp)
        have zw2_0 : W.heap.size < w2.heap.size := World.block_lt_of_cell? _ _ cw2_0_0
        have gw2 : Gr W w2 := Gr.trans (by have gg := gw1; have gs := gg.size; go_grown) hw2
        clear hw2 gw1 zw1_0 cw1_0_0 cw1_0_1 cw1_0_2 cw1_0_3
        go_wp2_with fail
        go_ret
        exact ⟨rfl, by go_grown⟩
      · by_cases a2 : hy < ly
        · simp only [a1, a2, decide_true, decide_false, Bool.not_true, Bool.not_false, Bool.true_and, Bool.false_eq_true, if_false]
          go_enter Tryd.func6, Tryd.ntmps6
          go_wp2_with fail
          go_at_call 18
          refine ((H1.out _)).mono ?_
          rintro e w1 ⟨rfl, hw1⟩
          have cw1_0_0 : w1.cell? ⟨W.heap.size, 0, none⟩ = some (.int .i64 lx) := cell_gr hw1 (by go_simp)
          have cw1_0_1 : w1.cell? ⟨W.heap.size, 1, none⟩ = some (.int .i64 ly) := cell_gr hw1 (by go_simp)
          have cw1_0_2 : w1.cell? ⟨W.heap.size, 2, none⟩ = some (.int .i64 hx) := cell_gr hw1 (by go_simp)
          have cw1_0_3 : w1.cell? ⟨W.heap.size, 3, none⟩ = some (.int .i64 hy) := cell_gr hw1 (by go_simp)
          have zw1_0 : W.heap.size < w1.heap.size := World.block_lt_of_cell? _ _ cw1_0_0
          have gw1 : Gr W w1 := Gr.trans (by go_grown) hw1
          clear hw1
          go_wp2_with fail
          go_at_call 18
          refine ((H2.out _)).mono ?_
          rintro e w2 ⟨rfl, hw2⟩
          have cw2_0_0 : w2.cell? ⟨W.heap.size, 0, none⟩ = some (.int .i64 lx) := cell_gr hw2 (by go_simp)
          have cw2_0_1 : w2.cell? ⟨W.heap.size, 1, none⟩ = some (.int .i64 ly) := cell_gr hw2 (by go_simp)
          have cw2_0_2 : w2.cell? ⟨W.heap.size, 2, none⟩ = some (.int .i64 hx) := cell_gr hw2 (by go_simp)
          have cw2_0_3 : w2.cell? ⟨W.heap.size, 3, none⟩ = some (.int .i64 hy) := cell_gr hw2 (by go_simp)
          have zw2_0 : W.heap.size < w2.heap.size := World.block_lt_of_cell? _ _ cw2_0_0
          have gw2 : Gr W w2 := Gr.trans (by have gg := gw1; have gs := gg.size; go_grown) hw2
          clear hw2 gw1 zw1_0 cw1_0_0 cw1_0_1 cw1_0_2 cw1_0_3
          go_wp2_with fail
          go_ret
          exact ⟨rfl, by go_grown⟩
        · simp only [a1, a2, decide_false, Bool.not_false, Bool.and_self, if_true]
          go_enter Tryd.func6, Tryd.ntmps6
          go_wp2_with fail
          go_at_call 18
          refine ((H1.out _)).mono ?_
          rintro e w1 ⟨rfl, hw1⟩
          have cw1_0_0 : w1.cell? ⟨W.heap.size, 0, none⟩ = some (.int .i64 lx) := cell_gr hw1 (by go_simp)
          have cw1_0_1 : w1.cell? ⟨W.heap.size, 1, none⟩ = some (.int .i64 ly) := cell_gr hw1 (by go_simp)
          have cw1_0_2 : w1.cell? ⟨W.heap.size, 2, none⟩ = some (.int .i64 hx) := cell_gr hw1 (by go_simp)
          have cw1_0_3 : w1.cell? ⟨W.heap.size, 3, none⟩ = some (.int .i64 hy) := cell_gr hw1 (by go_simp)
          have zw1_0 : W.heap.size < w1.heap.size := World.block_lt_of_cell? _ _ cw1_0_0
          have gw1 : Gr W w1 := Gr.trans (by go_grown) hw1
          clear hw1
          go_wp2_with fail
          go_at_call 18
          refine ((H2.out _)).mono ?_
          rintro e w2 ⟨rfl, hw2⟩
          have cw2_0_0 : w2.cell? ⟨W.heap.size, 0, none⟩ = some (.int .i64 lx) := cell_gr hw2 (by go_simp)
          have cw2_0_1 : w2.cell? ⟨W.heap.size, 1, none⟩ = some (.int .i64 ly) := cell_gr hw2 (by go_simp)
          have cw2_0_2 : w2.cell? ⟨W.heap.size, 2, none⟩ = some (.int .i64 hx) := cell_gr hw2 (by go_simp)
          have cw2_0_3 : w2.cell? ⟨W.heap.size, 3, none⟩ = some (.int .i64 hy) := cell_gr hw2 (by go_simp)
          have zw2_0 : W.heap.size < w2.heap.size := World.block_lt_of_cell? _ _ cw2_0_0
          have gw2 : Gr W w2 := Gr.trans (by have gg := gw1; have gs := gg.size; go_grown) hw2
          clear hw2 gw1 zw1_0 cw1_0_0 cw1_0_1 cw1_0_2 cw1_0_3
          go_wp2_with fail
          go_ret
          exact ⟨rfl, by go_grown⟩
def meetB (lx ly hx hy mx my nx ny : Int) : Bool := decide (lx ≤ nx) && decide (mx ≤ hx) && decide (ly ≤ ny) && decide (my ≤ hy)
set_option maxHeartbeats 2000000 in
theorem c_rBoxMeets (lx ly hx hy mx my nx ny : Int) (W : World) :
    Calls Tryd.prog 12 #[.agg #[.int .i64 lx, .int .i64 ly, .int .i64 hx, .int .i64 hy], .agg #[.int .i64 mx, .int .i64 my, .int .i64 nx, .int .i64 ny]] W fun e w' => e = .returned (.bool (boxB lx ly hx hy && boxB mx my nx ny && meetB lx ly hx hy mx my nx ny)) ∧ Gr W w' := by
  obtain ⟨r, hr⟩ : ∃ r, r = (boxB lx ly hx hy && boxB mx my nx ny && meetB lx ly hx hy mx my nx ny) := ⟨_, rfl⟩
  rw [← hr]
  obtain ⟨k1, e1⟩ : ∃ k, k = boxCode lx ly hx hy := ⟨_, rfl⟩
  obtain ⟨k2, e2⟩ : ∃ k, k = boxCode mx my nx ny := ⟨_, rfl⟩
  have M := c_rCheckBox lx ly hx hy
  have N := c_rCheckBox mx my nx ny
  rw [← e1] at M
  rw [← e2] at N
  rw [← boxCode_zero, ← boxCode_zero, ← e1, ← e2] at hr
  have H1 := Lib.hid M
  have H2 := Lib.hid N
  clear M N e1 e2
  unfold meetB at hr
  have hc : ((k1 == 0) = false ∧ r = false) ∨ (k1 = 0 ∧ (k2 == 0) = false ∧ r = false) ∨ (k1 = 0 ∧ k2 = 0 ∧ ¬ lx ≤ nx ∧ r = false) ∨ (k1 = 0 ∧ k2 = 0 ∧ lx ≤ nx ∧ ¬ mx ≤ hx ∧ r = false) ∨ (k1 = 0 ∧ k2 = 0 ∧ lx ≤ nx ∧ mx ≤ hx ∧ ¬ ly ≤ ny ∧ r = false) ∨ (k1 = 0 ∧ k2 = 0 ∧ lx ≤ nx ∧ mx ≤ hx ∧ ly ≤ ny ∧ ¬ my ≤ hy ∧ r = false) ∨ (k1 = 0 ∧ k2 = 0 ∧ lx ≤ nx ∧ mx ≤ hx ∧ ly ≤ ny ∧ my ≤ hy ∧ r = true) := by
    by_cases z1 : k1 = 0
    · by_cases z2 : k2 = 0
      · subst z1 z2
        right; right
        by_cases a1 : lx ≤ nx <;> by_cases a2 : mx ≤ hx <;> by_cases a3 : ly ≤ ny <;> by_cases a4 : my ≤ hy <;> simp [hr, a1, a2, a3, a4]
      · have : (k2 == 0) = false := by simpa using z2
        right; left; exact ⟨z1, this, by rw [hr, this]; simp⟩
    · have : (k1 == 0) = false := by simpa using z1
      left; exact ⟨this, by rw [hr, this]; simp⟩
  clear hr
  rcases hc with ⟨z1, rfl⟩ | ⟨rfl, z2, rfl⟩ | ⟨rfl, rfl, a1, rfl⟩ | ⟨rfl, rfl, a1, a2, rfl⟩ | ⟨rfl, rfl, a1, a2, a3, rfl⟩ | ⟨rfl, rfl, a1, a2, a3, a4, rfl⟩ | ⟨rfl, rfl, a1, a2, a3, a4, rfl⟩
  · go_enter Tryd.func12, Tryd.ntmps12
    go_wp2_with fail
    go_at_call 6
    refine ((H1.out _)).mono ?_
    rintro e w1 ⟨rfl, hw1⟩
    have cw1_0_0 : w1.cell? ⟨W.heap.size, 0, none⟩ = some (.int .i64 lx) := cell_gr hw1 (by go_simp)
    have cw1_0_1 : w1.cell? ⟨W.heap.size, 1, none⟩ = some (.int .i64 ly) := cell_gr hw1 (by go_simp)
    have cw1_0_2 : w1.cell? ⟨W.heap.size, 2, none⟩ = some (.int .i64 hx) := cell_gr hw1 (by go_simp)
    have cw1_0_3 : w1.cell? ⟨W.heap.size, 3, none⟩ = some (.int .i64 hy) := cell_gr hw1 (by go_simp)
    have zw1_0 : W.heap.size < w1.heap.size := World.block_lt_of_cell? _ _ cw1_0_0
    have cw1_1_0 : w1.cell? ⟨W.heap.size + 1, 0, none⟩ = some (.int .i64 mx) := cell_gr hw1 (by go_simp)
    have cw1_1_1 : w1.cell? ⟨W.heap.size + 1, 1, none⟩ = some (.int .i64 my) := cell_gr hw1 (by go_simp)
    have cw1_1_2 : w1.cell? ⟨W.heap.size + 1, 2, none⟩ = some (.int .i64 nx) := cell_gr hw1 (by go_simp)
    have cw1_1_3 : w1.cell? ⟨W.heap.size + 1, 3, none⟩ = some (.int .i64 ny) := cell_gr hw1 (by go_simp)
    have zw1_1 : W.heap.size + 1 < w1.heap.size := World.block_lt_of_cell? _ _ cw1_1_0
    have gw1 : Gr W w1 := Gr.trans (by go_grown) hw1
    clear hw1
    go_wp2_with fail
    go_ret
    exact ⟨rfl, by go_grown⟩
  all_goals
    go_enter Tryd.func12, Tryd.ntmps12
    go_wp2_with fail
    go_at_call 6
    refine ((H1.out _)).mono ?_
    rintro e w1 ⟨rfl, hw1⟩
    have cw1_0_0 : w1.cell? ⟨W.heap.size, 0, none⟩ = some (.int .i64 lx) := cell_gr hw1 (by go_simp)
    have cw1_0_1 : w1.cell? ⟨W.heap.size, 1, none⟩ = some (.int .i64 ly) := cell_gr hw1 (by go_simp)
    have cw1_0_2 : w1.cell? ⟨W.heap.size, 2, none⟩ = some (.int .i64 hx) := cell_gr hw1 (by go_simp)
    have cw1_0_3 : w1.cell? ⟨W.heap.size, 3, none⟩ = some (.int .i64 hy) := cell_gr hw1 (by go_simp)
    have zw1_0 : W.heap.size < w1.heap.size := World.block_lt_of_cell? _ _ cw1_0_0
    have cw1_1_0 : w1.cell? ⟨W.heap.size + 1, 0, none⟩ = some (.int .i64 mx) := cell_gr hw1 (by go_simp)
    have cw1_1_1 : w1.cell? ⟨W.heap.size + 1, 1, none⟩ = some (.int .i64 my) := cell_gr hw1 (by go_simp)
    have cw1_1_2 : w1.cell? ⟨W.heap.size + 1, 2, none⟩ = some (.int .i64 nx) := cell_gr hw1 (by go_simp)
    have cw1_1_3 : w1.cell? ⟨W.heap.size + 1, 3, none⟩ = some (.int .i64 ny) := cell_gr hw1 (by go_simp)
    have zw1_1 : W.heap.size + 1 < w1.heap.size := World.block_lt_of_cell? _ _ cw1_1_0
    have gw1 : Gr W w1 := Gr.trans (by go_grown) hw1
    clear hw1
    go_wp2_with fail
    go_at_call 6
    refine ((H2.out _)).mono ?_
    rintro e w2 ⟨rfl, hw2⟩
    have cw2_0_0 : w2.cell? ⟨W.heap.size, 0, none⟩ = some (.int .i64 lx) := cell_gr hw2 (by go_simp)
    have cw2_0_1 : w2.cell? ⟨W.heap.size, 1, none⟩ = some (.int .i64 ly) := cell_gr hw2 (by go_simp)
    have cw2_0_2 : w2.cell? ⟨W.heap.size, 2, none⟩ = some (.int .i64 hx) := cell_gr hw2 (by go_simp)
    have cw2_0_3 : w2.cell? ⟨W.heap.size, 3, none⟩ = some (.int .i64 hy) := cell_gr hw2 (by go_simp)
    have zw2_0 : W.heap.size < w2.heap.size := World.block_lt_of_cell? _ _ cw2_0_0
    have cw2_1_0 : w2.cell? ⟨W.heap.size + 1, 0, none⟩ = some (.int .i64 mx) := cell_gr hw2 (by go_simp)
    have cw2_1_1 : w2.cell? ⟨W.heap.size + 1, 1, none⟩ = some (.int .i64 my) := cell_gr hw2 (by go_simp)
    have cw2_1_2 : w2.cell? ⟨W.heap.size + 1, 2, none⟩ = some (.int .i64 nx) := cell_gr hw2 (by go_simp)
    have cw2_1_3 : w2.cell? ⟨W.heap.size + 1, 3, none⟩ = some (.int .i64 ny) := cell_gr hw2 (by go_simp)
    have zw2_1 : W.heap.size + 1 < w2.heap.size := World.block_lt_of_cell? _ _ cw2_1_0
    have gw2 : Gr W w2 := Gr.trans (by have gg := gw1; have gs := gg.size; go_grown) hw2
    clear hw2 gw1 zw1_0 cw1_0_0 cw1_0_1 cw1_0_2 cw1_0_3 zw1_1 cw1_1_0 cw1_1_1 cw1_1_2 cw1_1_3
    go_wp2_with fail
    go_ret
    exact ⟨by first | rfl | simp [a4], by go_grown⟩
end Go.Proofs.YtfobmlgpjhghdaaDoor
namespace Go.Proofs.YtfobmlgpjhghdaaDoor
set_option linter.unusedVariables false
open Go.ChangeShapes Go.WideShapes Go.ChangeAt Go.RowKit
theorem inB_iff {lx ly hx hy px py : Int} : inB lx ly hx hy px py = true ↔ lx ≤ px ∧ px ≤ hx ∧ ly ≤ py ∧ py ≤ hy := by
  unfold inB; simp [and_assoc]
end Go.Proofs.YtfobmlgpjhghdaaDoor
namespace Go.Proofs.YtfobmlgpjhghdaaDoor
set_option linter.unusedVariables false
open Go.ChangeShapes Go.WideShapes Go.ChangeAt Go.RowKit
theorem eqPt (ax ay bx by' : Int) (w : World) : (binOp .eql 26 (.agg #[.int .i64 ax, .int .i64 ay]) (.agg #[.int .i64 bx, .int .i64 by'])).run Tryd.prog w = .ok (.bool (decide (ax = bx ∧ ay = by'))) w := by
  by_cases h1 : ax = bx
  · subst h1
    by_cases h2 : ay = by'
    · subst h2
      simp [go_sem]
    · have e : (ay == by') = false := by simpa using h2
      simp [go_sem, h2, e]
  · have e : (ax == bx) = false := by simpa using h1
    simp [go_sem, h1, e]
end Go.Proofs.YtfobmlgpjhghdaaDoor
namespace Go.Proofs.YtfobmlgpjhghdaaDoor
set_option linter.unusedVariables false
open Go.ChangeShapes Go.WideShapes Go.ChangeAt Go.RowKit
def minZ (a b : Int) : Int := if b < a then b else a
def maxZ (a b : Int) : Int := if a < b then b else a
set_option maxHeartbeats 1000000 in
set_option maxRecDepth 100000 in
theorem c_join (lx ly hx hy mx my nx ny : Int) (W : World) :
    Calls Tryd.prog 52 #[.agg #[.int .i64 lx, .int .i64 ly, .int .i64 hx, .int .i64 hy], .agg #[.int .i64 mx, .int .i64 my, .int .i64 nx, .int .i64 ny]] W fun e w' => e = .returned (.agg #[.int .i64 (minZ lx mx), .int .i64 (minZ ly my), .int .i64 (maxZ hx nx), .int .i64 (maxZ hy ny)]) ∧ Gr W w' := by
  have m1 : ∀ w, (Builtin.min_ #[3, 3] 3 #[.int .i64 lx, .int .i64 mx]).run Tryd.prog w = .ok (.int .i64 (minZ lx mx)) w := fun w => by simp [Builtin.min_, Builtin.min2, go_sem, minZ]
  have m2 : ∀ w, (Builtin.min_ #[3, 3] 3 #[.int .i64 ly, .int .i64 my]).run Tryd.prog w = .ok (.int .i64 (minZ ly my)) w := fun w => by simp [Builtin.min_, Builtin.min2, go_sem, minZ]
  have m3 : ∀ w, (Builtin.max_ #[3, 3] 3 #[.int .i64 hx, .int .i64 nx]).run Tryd.prog w = .ok (.int .i64 (maxZ hx nx)) w := fun w => by simp [Builtin.max_, Builtin.max2, go_sem, maxZ]
  have m4 : ∀ w, (Builtin.max_ #[3, 3] 3 #[.int .i64 hy, .int .i64 ny]).run Tryd.prog w = .ok (.int .i64 (maxZ hy ny)) w := fun w => by simp [Builtin.max_, Builtin.max2, go_sem, maxZ]
  go_enter Tryd.func52, Tryd.ntmps52
  go_wp2_with fail
  refine bodyPost_ret (v := .agg #[.int .i64 (minZ lx mx), .int .i64 (minZ ly my), .int .i64 (maxZ hx nx), .int .i64 (maxZ hy ny)]) (by simp [results, Tryd.results52, go_sem, *]) rfl ⟨rfl, by go_grown⟩
theorem minZ_self (a : Int) : minZ a a = a := by unfold minZ; simp
theorem maxZ_self (a : Int) : maxZ a a = a := by unfold maxZ; simp
theorem c_join_self (lx ly hx hy : Int) (W : World) :
    Calls Tryd.prog 52 #[.agg #[.int .i64 lx, .int .i64 ly, .int .i64 hx, .int .i64 hy], .agg #[.int .i64 lx, .int .i64 ly, .int .i64 hx, .int .i64 hy]] W fun e w' => e = .returned (.agg #[.int .i64 lx, .int .i64 ly, .int .i64 hx, .int .i64 hy]) ∧ Gr W w' := by
  have h := c_join lx ly hx hy lx ly hx hy W
  simp only [minZ_self, maxZ_self] at h
  exact h
end Go.Proofs.YtfobmlgpjhghdaaDoor
namespace Go.Proofs.YtfobmlgpjhghdaaDoor
set_option linter.unusedVariables false
open Go.ChangeShapes Go.WideShapes Go.ChangeAt Go.RowKit
def cr (ax ay bx by' cx cy : Int) : Int := (bx - ax) * (cy - ay) - (by' - ay) * (cx - ax)
def sg (ax ay bx by' cx cy : Int) : Int := cmpZ (cr ax ay bx by' cx cy) 0
def btw (ax ay bx by' px py : Int) : Bool := decide (minZ ax bx ≤ px) && decide (px ≤ maxZ ax bx) && decide (minZ ay by' ≤ py) && decide (py ≤ maxZ ay by')
def onF (ax ay bx by' px py : Int) : Bool := btw ax ay bx by' px py && (sg ax ay bx by' px py == 0)
def apF (ax ay bx by' cx cy dx dy : Int) : Bool := decide (maxZ ax bx < minZ cx dx) || decide (maxZ cx dx < minZ ax bx) || decide (maxZ ay by' < minZ cy dy) || decide (maxZ cy dy < minZ ay by')
def prF (ax ay bx by' cx cy dx dy : Int) : Bool := (sg ax ay bx by' cx cy * sg ax ay bx by' dx dy == -1) && (sg cx cy dx dy ax ay * sg cx cy dx dy bx by' == -1)
def enF (ax ay bx by' cx cy dx dy : Int) : Bool := onF ax ay bx by' cx cy || onF ax ay bx by' dx dy || onF cx cy dx dy ax ay || onF cx cy dx dy bx by'
def meF (ax ay bx by' cx cy dx dy : Int) : Bool := prF ax ay bx by' cx cy dx dy || enF ax ay bx by' cx cy dx dy
def sdZ (k : Int) : Int := if k = 1 then 0 else if k = -1 then 1 else 2
theorem sg_cases (ax ay bx by' cx cy : Int) : (sg ax ay bx by' cx cy = -1 ∧ cr ax ay bx by' cx cy < 0) ∨ (sg ax ay bx by' cx cy = 0 ∧ cr ax ay bx by' cx cy = 0) ∨ (sg ax ay bx by' cx cy = 1 ∧ 0 < cr ax ay bx by' cx cy) := by
  unfold sg cmpZ
  split
  · left; exact ⟨rfl, by assumption⟩
  · split
    · right; right; exact ⟨rfl, by assumption⟩
    · right; left; exact ⟨rfl, by omega⟩
theorem min_le' {a b c : Int} : minZ b c ≤ a ↔ b ≤ a ∨ c ≤ a := by unfold minZ; split <;> omega
theorem max_le {a b c : Int} : maxZ b c ≤ a ↔ b ≤ a ∧ c ≤ a := by unfold maxZ; split <;> omega
theorem le_max {a b c : Int} : a ≤ maxZ b c ↔ a ≤ b ∨ a ≤ c := by unfold maxZ; split <;> omega
theorem max_lt {a b c : Int} : maxZ b c < a ↔ b < a ∧ c < a := by unfold maxZ; split <;> omega
theorem lt_min {a b c : Int} : a < minZ b c ↔ a < b ∧ a < c := by unfold minZ; split <;> omega
theorem btw_iff {ax ay bx by' px py : Int} : btw ax ay bx by' px py = true ↔ ((ax ≤ px ∧ px ≤ bx) ∨ (bx ≤ px ∧ px ≤ ax)) ∧ ((ay ≤ py ∧ py ≤ by') ∨ (by' ≤ py ∧ py ≤ ay)) := by
  unfold btw
  simp only [Bool.and_eq_true, decide_eq_true_eq, min_le', le_max]
  omega
theorem onF_iff {ax ay bx by' px py : Int} : onF ax ay bx by' px py = true ↔ btw ax ay bx by' px py = true ∧ cr ax ay bx by' px py = 0 := by
  unfold onF
  rw [Bool.and_eq_true]
  have := sg_cases ax ay bx by' px py
  constructor
  · rintro ⟨h1, h2⟩
    refine ⟨h1, ?_⟩
    have h3 : sg ax ay bx by' px py = 0 := by simpa using h2
    omega
  · rintro ⟨h1, h2⟩
    exact ⟨h1, by have : sg ax ay bx by' px py = 0 := by omega
                  simpa using this⟩
theorem one_side {ax ay bx by' cx cy dx dy : Int} (h : onF cx cy dx dy ax ay = true) : 0 ≤ -(cr ax ay bx by' cx cy) * cr ax ay bx by' dx dy := by
  rw [onF_iff, btw_iff] at h
  obtain ⟨⟨h1, h2⟩, h3⟩ := h
  unfold cr at *
  obtain ⟨ux, eux⟩ : ∃ x, x = ax - cx := ⟨_, rfl⟩
  obtain ⟨uy, euy⟩ : ∃ x, x = ay - cy := ⟨_, rfl⟩
  obtain ⟨vx, evx⟩ : ∃ x, x = dx - ax := ⟨_, rfl⟩
  obtain ⟨vy, evy⟩ : ∃ x, x = dy - ay := ⟨_, rfl⟩
  obtain ⟨wx, ewx⟩ : ∃ x, x = bx - ax := ⟨_, rfl⟩
  obtain ⟨wy, ewy⟩ : ∃ x, x = by' - ay := ⟨_, rfl⟩
  have e1 : cx - ax = -ux := by omega
  have e2 : cy - ay = -uy := by omega
  have p1 : 0 ≤ ux * vx := by
    rcases h1 with h1 | h1
    · exact Int.mul_nonneg (by omega) (by omega)
    · exact Int.mul_nonneg_of_nonpos_of_nonpos (by omega) (by omega)
  have p2 : 0 ≤ uy * vy := by
    rcases h2 with h2 | h2
    · exact Int.mul_nonneg (by omega) (by omega)
    · exact Int.mul_nonneg_of_nonpos_of_nonpos (by omega) (by omega)
  have h4 : vx * uy = vy * ux := by
    have : dx - cx = ux + vx := by omega
    have : dy - cy = uy + vy := by omega
    grind
  rw [e1, e2, ← ewx, ← ewy, ← evx, ← evy]
  clear h1 h2 h3 eux euy evx evy ewx ewy e1 e2
  have key : -(wx * -uy - wy * -ux) * (wx * vy - wy * vx) = wx * wx * (uy * vy) + wy * wy * (ux * vx) - 2 * (wx * wy) * (vx * uy) := by grind
  rw [key]
  obtain ⟨α, hα⟩ : ∃ x, x = ux * vx := ⟨_, rfl⟩
  obtain ⟨β, hβ⟩ : ∃ x, x = uy * vy := ⟨_, rfl⟩
  obtain ⟨m, hm⟩ : ∃ x, x = vx * uy := ⟨_, rfl⟩
  have hmm : m * m = α * β := by grind
  rw [← hα, ← hβ, ← hm]
  rw [← hα] at p1
  rw [← hβ] at p2
  clear hα hβ key
  rcases Int.lt_or_eq_of_le p1 with h | h
  ·
    have sq : α * (wx * wx * β + wy * wy * α - 2 * (wx * wy) * m) = (α * wy - m * wx) * (α * wy - m * wx) := by grind
    have nn := sq_nonneg (α * wy - m * wx)
    rw [← sq] at nn
    rcases Int.lt_or_le (wx * wx * β + wy * wy * α - 2 * (wx * wy) * m) 0 with g | g
    · have := Int.mul_neg_of_pos_of_neg h g
      omega
    · exact g
  · have m0 : m = 0 := by
      have : m * m = 0 := by rw [hmm, ← h]; simp
      simpa using Int.mul_eq_zero.1 this
    rw [m0, ← h]
    have := Int.mul_nonneg (sq_nonneg wx) p2
    simp
    exact this
theorem cross_x {ax ay bx by' cx cy dx dy : Int} (h1 : 0 < cr ax ay bx by' cx cy) (h2 : cr ax ay bx by' dx dy < 0) (h3 : cr cx cy dx dy ax ay < 0) (h4 : 0 < cr cx cy dx dy bx by') :
    ¬ (maxZ ax bx < minZ cx dx) ∧ ¬ (maxZ cx dx < minZ ax bx) ∧ ¬ (maxZ ay by' < minZ cy dy) ∧ ¬ (maxZ cy dy < minZ ay by') := by
  have idx : cr ax ay bx by' cx cy * dx - cr ax ay bx by' dx dy * cx = cr cx cy dx dy bx by' * ax - cr cx cy dx dy ax ay * bx := by unfold cr; grind
  have idy : cr ax ay bx by' cx cy * dy - cr ax ay bx by' dx dy * cy = cr cx cy dx dy bx by' * ay - cr cx cy dx dy ax ay * by' := by unfold cr; grind
  have sum : cr ax ay bx by' cx cy - cr ax ay bx by' dx dy = cr cx cy dx dy bx by' - cr cx cy dx dy ax ay := by unfold cr; grind
  generalize cr ax ay bx by' cx cy = p at *
  generalize cr cx cy dx dy bx by' = r at *
  obtain ⟨q, hq⟩ : ∃ q, q = -cr ax ay bx by' dx dy := ⟨_, rfl⟩
  obtain ⟨s, hs⟩ : ∃ s, s = -cr cx cy dx dy ax ay := ⟨_, rfl⟩
  have hq' : cr ax ay bx by' dx dy = -q := by omega
  have hs' : cr cx cy dx dy ax ay = -s := by omega
  rw [hq'] at idx idy sum h2
  rw [hs'] at idx idy sum h3
  clear hq hs hq' hs'
  have core : ∀ u v x y : Int, p * y + q * x = r * u + s * v → ¬ (maxZ u v < minZ x y) ∧ ¬ (maxZ x y < minZ u v) := by
    intro u v x y e
    constructor
    · intro g
      obtain ⟨t, ht⟩ : ∃ t, t = maxZ u v := ⟨_, rfl⟩
      have g1 : u ≤ t ∧ v ≤ t := max_le.1 (by omega)
      have g2 : t < x ∧ t < y := lt_min.1 (by omega)
      have a1 : p * (t + 1) ≤ p * y := Int.mul_le_mul_of_nonneg_left (by omega) (by omega)
      have a2 : q * (t + 1) ≤ q * x := Int.mul_le_mul_of_nonneg_left (by omega) (by omega)
      have a3 : r * u ≤ r * t := Int.mul_le_mul_of_nonneg_left (by omega) (by omega)
      have a4 : s * v ≤ s * t := Int.mul_le_mul_of_nonneg_left (by omega) (by omega)
      have a5 : (p + q) * t = (r + s) * t := by rw [show p + q = r + s by omega]
      have : p * (t + 1) + q * (t + 1) = (p + q) * t + p + q := by grind
      have : r * t + s * t = (r + s) * t := by grind
      omega
    · intro g
      obtain ⟨t, ht⟩ : ∃ t, t = maxZ x y := ⟨_, rfl⟩
      have g1 : x ≤ t ∧ y ≤ t := max_le.1 (by omega)
      have g2 : t < u ∧ t < v := lt_min.1 (by omega)
      have a1 : r * (t + 1) ≤ r * u := Int.mul_le_mul_of_nonneg_left (by omega) (by omega)
      have a2 : s * (t + 1) ≤ s * v := Int.mul_le_mul_of_nonneg_left (by omega) (by omega)
      have a3 : p * y ≤ p * t := Int.mul_le_mul_of_nonneg_left (by omega) (by omega)
      have a4 : q * x ≤ q * t := Int.mul_le_mul_of_nonneg_left (by omega) (by omega)
      have a5 : (p + q) * t = (r + s) * t := by rw [show p + q = r + s by omega]
      have : r * (t + 1) + s * (t + 1) = (r + s) * t + r + s := by grind
      have : p * t + q * t = (p + q) * t := by grind
      omega
  have c1 := core ax bx cx dx (by rw [Int.neg_mul, Int.neg_mul] at idx; omega)
  have c2 := core ay by' cy dy (by rw [Int.neg_mul, Int.neg_mul] at idy; omega)
  exact ⟨c1.1, c1.2, c2.1, c2.2⟩
theorem cr_flip (ax ay bx by' cx cy : Int) : cr bx by' ax ay cx cy = -cr ax ay bx by' cx cy := by unfold cr; grind
theorem sg_flip (ax ay bx by' cx cy : Int) : sg bx by' ax ay cx cy = -sg ax ay bx by' cx cy := by
  unfold sg
  rw [cr_flip]
  unfold cmpZ
  split <;> split <;> (try split) <;> (try split) <;> omega
theorem max_comm' (a b : Int) : maxZ b a = maxZ a b := by unfold maxZ; split <;> split <;> omega
theorem min_comm' (a b : Int) : minZ b a = minZ a b := by unfold minZ; split <;> split <;> omega
theorem prF_iff {ax ay bx by' cx cy dx dy : Int} : prF ax ay bx by' cx cy dx dy = true ↔ ((0 < cr ax ay bx by' cx cy ∧ cr ax ay bx by' dx dy < 0) ∨ (cr ax ay bx by' cx cy < 0 ∧ 0 < cr ax ay bx by' dx dy)) ∧ ((0 < cr cx cy dx dy ax ay ∧ cr cx cy dx dy bx by' < 0) ∨ (cr cx cy dx dy ax ay < 0 ∧ 0 < cr cx cy dx dy bx by')) := by
  unfold prF
  rw [Bool.and_eq_true, beq_iff_eq, beq_iff_eq]
  rcases sg_cases ax ay bx by' cx cy with ⟨a1, a2⟩ | ⟨a1, a2⟩ | ⟨a1, a2⟩ <;> rcases sg_cases ax ay bx by' dx dy with ⟨b1, b2⟩ | ⟨b1, b2⟩ | ⟨b1, b2⟩ <;> rw [a1, b1] <;>
  rcases sg_cases cx cy dx dy ax ay with ⟨c1, c2⟩ | ⟨c1, c2⟩ | ⟨c1, c2⟩ <;> rcases sg_cases cx cy dx dy bx by' with ⟨d1, d2⟩ | ⟨d1, d2⟩ | ⟨d1, d2⟩ <;> rw [c1, d1] <;> simp <;> omega
theorem prF_apart {ax ay bx by' cx cy dx dy : Int} (h : prF ax ay bx by' cx cy dx dy = true) : apF ax ay bx by' cx cy dx dy = false := by
  rw [prF_iff] at h
  have sum : cr ax ay bx by' cx cy - cr ax ay bx by' dx dy = cr cx cy dx dy bx by' - cr cx cy dx dy ax ay := by unfold cr; grind
  unfold apF
  obtain ⟨h1 | h1, h2⟩ := h
  · have g : cr cx cy dx dy ax ay < 0 ∧ 0 < cr cx cy dx dy bx by' := by omega
    have := cross_x h1.1 h1.2 g.1 g.2
    simp [this.1, this.2.1, this.2.2.1, this.2.2.2]
  · have g : 0 < cr cx cy dx dy ax ay ∧ cr cx cy dx dy bx by' < 0 := by omega
    have f1 := cr_flip ax ay bx by' cx cy
    have f2 := cr_flip ax ay bx by' dx dy
    have f3 := cr_flip cx cy dx dy ax ay
    have := cross_x (ax := bx) (ay := by') (bx := ax) (by' := ay) (cx := cx) (cy := cy) (dx := dx) (dy := dy) (by omega) (by omega) (by omega) (by omega)
    rw [max_comm' ax bx, max_comm' ay by', min_comm' ax bx, min_comm' ay by'] at this
    simp [this.1, this.2.1, this.2.2.1, this.2.2.2]
theorem onF_apart {ax ay bx by' cx cy dx dy : Int} (h : enF ax ay bx by' cx cy dx dy = true) : apF ax ay bx by' cx cy dx dy = false := by
  unfold enF at h
  simp only [Bool.or_eq_true, onF_iff, btw_iff] at h
  unfold apF
  simp only [Bool.or_eq_false_iff, decide_eq_false_iff_not]
  rcases h with ((⟨h, -⟩ | ⟨h, -⟩) | ⟨h, -⟩) | ⟨h, -⟩ <;> unfold maxZ minZ <;> (refine ⟨⟨⟨?_, ?_⟩, ?_⟩, ?_⟩) <;> (split <;> split <;> omega)
def meC (ax ay bx by' cx cy dx dy : Int) : Bool :=
  if apF ax ay bx by' cx cy dx dy then false else
  if sdZ (sg ax ay bx by' cx cy * sg ax ay bx by' dx dy) = 0 then false else
  if sdZ (sg ax ay bx by' cx cy * sg ax ay bx by' dx dy) = 1 ∧ sdZ (sg cx cy dx dy ax ay * sg cx cy dx dy bx by') = 1 then true else enF ax ay bx by' cx cy dx dy
theorem sdZ0 {k : Int} : sdZ k = 0 ↔ k = 1 := by unfold sdZ; split <;> (try split) <;> omega
theorem sdZ1 {k : Int} : sdZ k = 1 ↔ k = -1 := by unfold sdZ; split <;> (try split) <;> omega
theorem meC_eq (ax ay bx by' cx cy dx dy : Int) : meC ax ay bx by' cx cy dx dy = meF ax ay bx by' cx cy dx dy := by
  unfold meC meF
  cases h1 : apF ax ay bx by' cx cy dx dy
  · rw [if_neg (by simp)]
    by_cases h2 : sdZ (sg ax ay bx by' cx cy * sg ax ay bx by' dx dy) = 0
    · rw [if_pos h2]
      rw [sdZ0] at h2
      have p : prF ax ay bx by' cx cy dx dy = false := by unfold prF; rw [h2]; rfl
      have same : (0 < cr ax ay bx by' cx cy ∧ 0 < cr ax ay bx by' dx dy) ∨ (cr ax ay bx by' cx cy < 0 ∧ cr ax ay bx by' dx dy < 0) := by
        rcases sg_cases ax ay bx by' cx cy with ⟨a1, a2⟩ | ⟨a1, a2⟩ | ⟨a1, a2⟩ <;> rcases sg_cases ax ay bx by' dx dy with ⟨b1, b2⟩ | ⟨b1, b2⟩ | ⟨b1, b2⟩ <;> rw [a1, b1] at h2 <;> simp at h2 <;> omega
      have pos : 0 < cr ax ay bx by' cx cy * cr ax ay bx by' dx dy := by
        rcases same with ⟨a, b⟩ | ⟨a, b⟩
        · exact Int.mul_pos a b
        · exact Int.mul_pos_of_neg_of_neg a b
      have o1 : onF ax ay bx by' cx cy = false := by
        rw [← Bool.not_eq_true, onF_iff]; omega
      have o2 : onF ax ay bx by' dx dy = false := by
        rw [← Bool.not_eq_true, onF_iff]; omega
      have o3 : onF cx cy dx dy ax ay = false := by
        rw [← Bool.not_eq_true]
        intro h
        have := one_side (bx := bx) (by' := by') h
        rw [Int.neg_mul] at this
        omega
      have o4 : onF cx cy dx dy bx by' = false := by
        rw [← Bool.not_eq_true]
        intro h
        have := one_side (bx := ax) (by' := ay) h
        rw [cr_flip, cr_flip ax ay bx by' dx dy] at this
        rw [Int.neg_neg, Int.mul_neg] at this
        omega
      unfold enF
      rw [p, o1, o2, o3, o4]
      rfl
    · rw [if_neg h2]
      by_cases h3 : sdZ (sg ax ay bx by' cx cy * sg ax ay bx by' dx dy) = 1 ∧ sdZ (sg cx cy dx dy ax ay * sg cx cy dx dy bx by') = 1
      · rw [if_pos h3]
        rw [sdZ1, sdZ1] at h3
        unfold prF
        rw [h3.1, h3.2]
        rfl
      · rw [if_neg h3]
        rw [sdZ1, sdZ1] at h3
        have p : prF ax ay bx by' cx cy dx dy = false := by
          unfold prF
          rw [← Bool.not_eq_true, Bool.and_eq_true, beq_iff_eq, beq_iff_eq]
          exact h3
        rw [p]
        rfl
  · rw [if_pos rfl]
    have p : prF ax ay bx by' cx cy dx dy = false := by
      rw [← Bool.not_eq_true]; intro h; rw [prF_apart h] at h1; cases h1
    have q : enF ax ay bx by' cx cy dx dy = false := by
      rw [← Bool.not_eq_true]; intro h; rw [onF_apart h] at h1; cases h1
    rw [p, q]
    rfl
theorem onF_flip (ax ay bx by' px py : Int) : onF bx by' ax ay px py = onF ax ay bx by' px py := by
  rw [Bool.eq_iff_iff, onF_iff, onF_iff, btw_iff, btw_iff, cr_flip]
  omega
theorem meF_swap (ax ay bx by' cx cy dx dy : Int) : meF cx cy dx dy ax ay bx by' = meF ax ay bx by' cx cy dx dy := by
  unfold meF prF enF
  grind
theorem meF_flip (ax ay bx by' cx cy dx dy : Int) : meF bx by' ax ay cx cy dx dy = meF ax ay bx by' cx cy dx dy := by
  unfold meF prF enF
  rw [onF_flip ax ay bx by', onF_flip ax ay bx by', sg_flip ax ay bx by', sg_flip ax ay bx by', Int.neg_mul_neg, Int.mul_comm (sg cx cy dx dy bx by')]
  grind
theorem meF_flip2 (ax ay bx by' cx cy dx dy : Int) : meF ax ay bx by' dx dy cx cy = meF ax ay bx by' cx cy dx dy := by
  rw [meF_swap, meF_flip, meF_swap]
def alZ (ax ay bx by' px py : Int) : Int := (bx - ax) * (px - ax) + (by' - ay) * (py - ay)
theorem sq_nn (ax ay bx by' : Int) : 0 ≤ sqZ ax ay bx by' := by
  have a1 := sq_nonneg (bx - ax)
  have a2 := sq_nonneg (by' - ay)
  unfold sqZ; omega
theorem sq_zero_iff (ax ay bx by' : Int) : sqZ ax ay bx by' = 0 ↔ ax = bx ∧ ay = by' := by
  have a1 := sq_nonneg (bx - ax)
  have a2 := sq_nonneg (by' - ay)
  unfold sqZ
  constructor
  · intro h
    have d1 : (bx - ax) * (bx - ax) = 0 := by omega
    have d2 : (by' - ay) * (by' - ay) = 0 := by omega
    have := Int.mul_eq_zero.1 d1
    have := Int.mul_eq_zero.1 d2
    omega
  · rintro ⟨rfl, rfl⟩
    simp
theorem bet_of {w a u v : Int} (hw : 0 < w) (h1 : 0 ≤ a) (h2 : a ≤ w) (e : w * v = a * u) : (0 ≤ v ∧ v ≤ u) ∨ (u ≤ v ∧ v ≤ 0) := by
  rcases Int.le_total 0 u with h | h
  · left
    have b1 : 0 ≤ a * u := Int.mul_nonneg h1 h
    have b2 : a * u ≤ w * u := Int.mul_le_mul_of_nonneg_right h2 h
    rw [← e] at b1 b2
    exact ⟨Int.nonneg_of_mul_nonneg_right (a := w) (by omega) hw, Int.le_of_mul_le_mul_left b2 hw⟩
  · right
    have b1 : 0 ≤ a * (-u) := Int.mul_nonneg h1 (by omega)
    have b2 : a * (-u) ≤ w * (-u) := Int.mul_le_mul_of_nonneg_right h2 (by omega)
    have e' : a * (-u) = w * (-v) := by rw [Int.mul_neg, Int.mul_neg, e]
    rw [e'] at b1 b2
    have c1 : 0 ≤ -v := Int.nonneg_of_mul_nonneg_right (a := w) (by omega) hw
    have c2 : -v ≤ -u := Int.le_of_mul_le_mul_left b2 hw
    omega
end Go.Proofs.YtfobmlgpjhghdaaDoor
namespace Go.Proofs.YtfobmlgpjhghdaaDoor
set_option linter.unusedVariables false
open Go.ChangeShapes Go.WideShapes Go.ChangeAt Go.RowKit
def inP (lx ly hx hy px py : Int) : Prop := lx ≤ px ∧ px ≤ hx ∧ ly ≤ py ∧ py ≤ hy
def ovP (lx ly hx hy ax ay bx by' : Int) : Prop := (ax ≤ hx ∨ bx ≤ hx) ∧ (lx ≤ ax ∨ lx ≤ bx) ∧ (ay ≤ hy ∨ by' ≤ hy) ∧ (ly ≤ ay ∨ ly ≤ by')
theorem ovP_flip {lx ly hx hy ax ay bx by' : Int} (h : ovP lx ly hx hy ax ay bx by') : ovP lx ly hx hy bx by' ax ay := by
  unfold ovP at *; omega
theorem me_opp {ax ay bx by' px py qx qy : Int} (h : meF ax ay bx by' px py qx qy = true) : ¬ (0 < cr ax ay bx by' px py ∧ 0 < cr ax ay bx by' qx qy) ∧ ¬ (cr ax ay bx by' px py < 0 ∧ cr ax ay bx by' qx qy < 0) := by
  rw [← meC_eq] at h
  unfold meC at h
  rcases sg_cases ax ay bx by' px py with ⟨a1, a2⟩ | ⟨a1, a2⟩ | ⟨a1, a2⟩ <;> rcases sg_cases ax ay bx by' qx qy with ⟨b1, b2⟩ | ⟨b1, b2⟩ | ⟨b1, b2⟩ <;> rw [a1, b1] at h <;> simp [sdZ] at h <;> omega
theorem me_ap {ax ay bx by' px py qx qy : Int} (h : meF ax ay bx by' px py qx qy = true) : apF ax ay bx by' px py qx qy = false := by
  unfold meF at h
  rw [Bool.or_eq_true] at h
  rcases h with h | h
  · exact prF_apart h
  · exact onF_apart h
theorem me_ov {lx ly hx hy ax ay bx by' px py qx qy : Int} (h : meF ax ay bx by' px py qx qy = true) (h1 : inP lx ly hx hy px py) (h2 : inP lx ly hx hy qx qy) : ovP lx ly hx hy ax ay bx by' := by
  have g := me_ap h
  unfold apF at g
  simp only [Bool.or_eq_false_iff, decide_eq_false_iff_not, max_lt, lt_min] at g
  unfold inP at *
  unfold ovP
  omega
theorem both_straddle {ax ay bx by' px py qx qy : Int} (h1 : cr ax ay bx by' px py ≤ 0) (h2 : 0 ≤ cr ax ay bx by' qx qy) (hD : cr ax ay bx by' px py < cr ax ay bx by' qx qy)
    (g1 : 0 ≤ cr px py qx qy ax ay) (g2 : cr px py qx qy bx by' ≤ 0) : meF ax ay bx by' px py qx qy = true := by
  have sum : cr ax ay bx by' px py - cr ax ay bx by' qx qy = cr px py qx qy bx by' - cr px py qx qy ax ay := by unfold cr; grind
  unfold meF
  rw [Bool.or_eq_true]
  by_cases hp : prF ax ay bx by' px py qx qy = true
  · exact Or.inl hp
  right
  have hz : cr ax ay bx by' px py = 0 ∨ cr ax ay bx by' qx qy = 0 ∨ cr px py qx qy ax ay = 0 ∨ cr px py qx qy bx by' = 0 := by
    rw [prF_iff] at hp
    omega
  unfold enF
  have e1x : (cr px py qx qy ax ay - cr px py qx qy bx by') * (px - ax) = cr px py qx qy ax ay * (bx - ax) + cr ax ay bx by' px py * (qx - px) := by unfold cr; grind
  have e1y : (cr px py qx qy ax ay - cr px py qx qy bx by') * (py - ay) = cr px py qx qy ax ay * (by' - ay) + cr ax ay bx by' px py * (qy - py) := by unfold cr; grind
  have e2x : (cr px py qx qy ax ay - cr px py qx qy bx by') * (qx - ax) = cr px py qx qy ax ay * (bx - ax) + cr ax ay bx by' qx qy * (qx - px) := by unfold cr; grind
  have e2y : (cr px py qx qy ax ay - cr px py qx qy bx by') * (qy - ay) = cr px py qx qy ax ay * (by' - ay) + cr ax ay bx by' qx qy * (qy - py) := by unfold cr; grind
  have e3x : (cr ax ay bx by' qx qy - cr ax ay bx by' px py) * (ax - px) = -cr ax ay bx by' px py * (qx - px) - cr px py qx qy ax ay * (bx - ax) := by unfold cr; grind
  have e3y : (cr ax ay bx by' qx qy - cr ax ay bx by' px py) * (ay - py) = -cr ax ay bx by' px py * (qy - py) - cr px py qx qy ax ay * (by' - ay) := by unfold cr; grind
  have e4x : (cr ax ay bx by' qx qy - cr ax ay bx by' px py) * (bx - px) = -cr ax ay bx by' px py * (qx - px) - cr px py qx qy bx by' * (bx - ax) := by unfold cr; grind
  have e4y : (cr ax ay bx by' qx qy - cr ax ay bx by' px py) * (by' - py) = -cr ax ay bx by' px py * (qy - py) - cr px py qx qy bx by' * (by' - ay) := by unfold cr; grind
  rcases hz with hz | hz | hz | hz
  · rw [hz, Int.zero_mul, Int.add_zero] at e1x e1y
    have b1 := bet_of (by omega) g1 (by omega) e1x
    have b2 := bet_of (by omega) g1 (by omega) e1y
    have : onF ax ay bx by' px py = true := onF_iff.2 ⟨btw_iff.2 (by omega), hz⟩
    simp [this]
  · rw [hz, Int.zero_mul, Int.add_zero] at e2x e2y
    have b1 := bet_of (by omega) g1 (by omega) e2x
    have b2 := bet_of (by omega) g1 (by omega) e2y
    have : onF ax ay bx by' qx qy = true := onF_iff.2 ⟨btw_iff.2 (by omega), hz⟩
    simp [this]
  · rw [hz, Int.zero_mul, Int.sub_zero] at e3x e3y
    have b1 := bet_of (by omega) (by omega) (by omega) e3x
    have b2 := bet_of (by omega) (by omega) (by omega) e3y
    have : onF px py qx qy ax ay = true := onF_iff.2 ⟨btw_iff.2 (by omega), hz⟩
    simp [this]
  · rw [hz, Int.zero_mul, Int.sub_zero] at e4x e4y
    have b1 := bet_of (by omega) (by omega) (by omega) e4x
    have b2 := bet_of (by omega) (by omega) (by omega) e4y
    have : onF px py qx qy bx by' = true := onF_iff.2 ⟨btw_iff.2 (by omega), hz⟩
    simp [this]
theorem off_side {f1 f2 g1 g2 u v p q lo hi : Int} (e : f2 * p - f1 * q = g2 * u - g1 * v) (hf1 : f1 ≤ 0) (hf2 : 0 ≤ f2) (hs : f2 - f1 = g2 - g1) (hg : 0 < g1) (hgg : g1 < g2)
    (hp : lo ≤ p ∧ p ≤ hi) (hq : lo ≤ q ∧ q ≤ hi) (ho1 : u ≤ hi ∨ v ≤ hi) (ho2 : lo ≤ u ∨ lo ≤ v) : lo ≤ u ∧ u ≤ hi := by
  constructor
  · rcases Int.lt_or_le u lo with h | h
    · exfalso
      have hv : lo ≤ v := by omega
      have a1 : f2 * lo ≤ f2 * p := Int.mul_le_mul_of_nonneg_left hp.1 hf2
      have a2 : (-f1) * lo ≤ (-f1) * q := Int.mul_le_mul_of_nonneg_left hq.1 (by omega)
      have a3 : g2 * (u + 1) ≤ g2 * lo := Int.mul_le_mul_of_nonneg_left (by omega) (by omega)
      have a4 : g1 * lo ≤ g1 * v := Int.mul_le_mul_of_nonneg_left hv (by omega)
      have a5 : (f2 - f1) * lo = (g2 - g1) * lo := by rw [hs]
      have a6 : (f2 - f1) * lo = f2 * lo + (-f1) * lo := by grind
      have a7 : (g2 - g1) * lo = g2 * lo - g1 * lo := by grind
      have a8 : g2 * (u + 1) = g2 * u + g2 := by grind
      rw [Int.neg_mul, Int.neg_mul] at a2
      rw [Int.neg_mul] at a6
      omega
    · exact h
  · rcases Int.lt_or_le hi u with h | h
    · exfalso
      have hv : v ≤ hi := by omega
      have a1 : f2 * p ≤ f2 * hi := Int.mul_le_mul_of_nonneg_left hp.2 hf2
      have a2 : (-f1) * q ≤ (-f1) * hi := Int.mul_le_mul_of_nonneg_left hq.2 (by omega)
      have a3 : g2 * (hi + 1) ≤ g2 * u := Int.mul_le_mul_of_nonneg_left (by omega) (by omega)
      have a4 : g1 * v ≤ g1 * hi := Int.mul_le_mul_of_nonneg_left hv (by omega)
      have a5 : (f2 - f1) * hi = (g2 - g1) * hi := by rw [hs]
      have a6 : (f2 - f1) * hi = f2 * hi + (-f1) * hi := by grind
      have a7 : (g2 - g1) * hi = g2 * hi - g1 * hi := by grind
      have a8 : g2 * (hi + 1) = g2 * hi + g2 := by grind
      rw [Int.neg_mul, Int.neg_mul] at a2
      rw [Int.neg_mul] at a6
      omega
    · exact h
theorem line_parts {lx ly hx hy ax ay bx by' px py qx qy : Int} (hp : inP lx ly hx hy px py) (hq : inP lx ly hx hy qx qy) (ho : ovP lx ly hx hy ax ay bx by')
    (na : ¬ inP lx ly hx hy ax ay) (nb : ¬ inP lx ly hx hy bx by') (h1 : cr ax ay bx by' px py ≤ 0) (h2 : 0 ≤ cr ax ay bx by' qx qy) (hD : cr ax ay bx by' px py < cr ax ay bx by' qx qy) :
    meF ax ay bx by' px py qx qy = true := by
  have sum : cr ax ay bx by' qx qy - cr ax ay bx by' px py = cr px py qx qy ax ay - cr px py qx qy bx by' := by unfold cr; grind
  have idx : cr ax ay bx by' qx qy * px - cr ax ay bx by' px py * qx = cr px py qx qy ax ay * bx - cr px py qx qy bx by' * ax := by unfold cr; grind
  have idy : cr ax ay bx by' qx qy * py - cr ax ay bx by' px py * qy = cr px py qx qy ax ay * by' - cr px py qx qy bx by' * ay := by unfold cr; grind
  unfold inP ovP at *
  by_cases g1 : 0 ≤ cr px py qx qy ax ay
  · by_cases g2 : cr px py qx qy bx by' ≤ 0
    · exact both_straddle h1 h2 hD g1 g2
    · exfalso
      have o1 := off_side (u := bx) (v := ax) (lo := lx) (hi := hx) idx h1 h2 sum (by omega) (by omega) ⟨hp.1, hp.2.1⟩ ⟨hq.1, hq.2.1⟩ (by omega) (by omega)
      have o2 := off_side (u := by') (v := ay) (lo := ly) (hi := hy) idy h1 h2 sum (by omega) (by omega) hp.2.2 hq.2.2 (by omega) (by omega)
      omega
  · exfalso
    have sum' : cr ax ay bx by' qx qy - cr ax ay bx by' px py = -cr px py qx qy bx by' - -cr px py qx qy ax ay := by omega
    have idx' : cr ax ay bx by' qx qy * px - cr ax ay bx by' px py * qx = -cr px py qx qy bx by' * ax - -cr px py qx qy ax ay * bx := by rw [Int.neg_mul, Int.neg_mul]; omega
    have idy' : cr ax ay bx by' qx qy * py - cr ax ay bx by' px py * qy = -cr px py qx qy bx by' * ay - -cr px py qx qy ax ay * by' := by rw [Int.neg_mul, Int.neg_mul]; omega
    have o1 := off_side (u := ax) (v := bx) (lo := lx) (hi := hx) idx' h1 h2 sum' (by omega) (by omega) ⟨hp.1, hp.2.1⟩ ⟨hq.1, hq.2.1⟩ (by omega) (by omega)
    have o2 := off_side (u := ay) (v := by') (lo := ly) (hi := hy) idy' h1 h2 sum' (by omega) (by omega) hp.2.2 hq.2.2 (by omega) (by omega)
    omega
theorem line_parts2 {lx ly hx hy ax ay bx by' px py qx qy : Int} (hp : inP lx ly hx hy px py) (hq : inP lx ly hx hy qx qy) (ho : ovP lx ly hx hy ax ay bx by')
    (na : ¬ inP lx ly hx hy ax ay) (nb : ¬ inP lx ly hx hy bx by') (h : (cr ax ay bx by' px py ≤ 0 ∧ 0 ≤ cr ax ay bx by' qx qy) ∨ (cr ax ay bx by' qx qy ≤ 0 ∧ 0 ≤ cr ax ay bx by' px py)) (hD : cr ax ay bx by' px py ≠ cr ax ay bx by' qx qy) :
    meF ax ay bx by' px py qx qy = true := by
  rcases h with h | h
  · exact line_parts hp hq ho na nb h.1 h.2 (by omega)
  · rw [meF_flip2]
    exact line_parts hq hp ho na nb h.1 h.2 (by omega)
theorem on_line {lx ly hx hy ax ay bx by' px py : Int} (hp : inP lx ly hx hy px py) (ho : ovP lx ly hx hy ax ay bx by')
    (na : ¬ inP lx ly hx hy ax ay) (nb : ¬ inP lx ly hx hy bx by') (h : cr ax ay bx by' px py = 0) : onF ax ay bx by' px py = true := by
  rw [onF_iff, btw_iff]
  refine ⟨?_, h⟩
  unfold inP ovP at *
  have n1 := sq_nn ax ay bx by'
  have z := sq_zero_iff ax ay bx by'
  have ex : sqZ ax ay bx by' * (px - ax) = alZ ax ay bx by' px py * (bx - ax) - cr ax ay bx by' px py * (by' - ay) := by unfold sqZ alZ cr; grind
  have ey : sqZ ax ay bx by' * (py - ay) = alZ ax ay bx by' px py * (by' - ay) + cr ax ay bx by' px py * (bx - ax) := by unfold sqZ alZ cr; grind
  have fx : sqZ ax ay bx by' * (px - bx) = (alZ ax ay bx by' px py - sqZ ax ay bx by') * (bx - ax) - cr ax ay bx by' px py * (by' - ay) := by unfold sqZ alZ cr; grind
  have fy : sqZ ax ay bx by' * (py - by') = (alZ ax ay bx by' px py - sqZ ax ay bx by') * (by' - ay) + cr ax ay bx by' px py * (bx - ax) := by unfold sqZ alZ cr; grind
  rw [h, Int.zero_mul] at ex ey fx fy
  rw [Int.sub_zero] at ex fx
  rw [Int.add_zero] at ey fy
  generalize alZ ax ay bx by' px py = α at *
  generalize sqZ ax ay bx by' = w at *
  have hw : 0 < w := by
    rcases Int.lt_or_eq_of_le n1 with g | g
    · exact g
    · obtain ⟨rfl, rfl⟩ := z.1 g.symm
      omega
  have sgn : ∀ k u v : Int, w * v = k * u → (k < 0 → (0 < v → u < 0) ∧ (v < 0 → 0 < u)) ∧ (0 < k → (0 < v → 0 < u) ∧ (v < 0 → u < 0)) := by
    intro k u v e
    refine ⟨fun hk => ⟨fun hv => ?_, fun hv => ?_⟩, fun hk => ⟨fun hv => ?_, fun hv => ?_⟩⟩
    · have : 0 < k * u := by rw [← e]; exact Int.mul_pos hw hv
      rcases Int.lt_or_le u 0 with g | g
      · exact g
      · have := Int.mul_nonpos_of_nonpos_of_nonneg (a := k) (b := u) (by omega) g; omega
    · have : k * u < 0 := by rw [← e]; exact Int.mul_neg_of_pos_of_neg hw hv
      rcases Int.lt_or_le 0 u with g | g
      · exact g
      · have := Int.mul_nonneg_of_nonpos_of_nonpos (a := k) (b := u) (by omega) g; omega
    · have : 0 < k * u := by rw [← e]; exact Int.mul_pos hw hv
      rcases Int.lt_or_le 0 u with g | g
      · exact g
      · have := Int.mul_nonpos_of_nonneg_of_nonpos (a := k) (b := u) (by omega) g; omega
    · have : k * u < 0 := by rw [← e]; exact Int.mul_neg_of_pos_of_neg hw hv
      rcases Int.lt_or_le u 0 with g | g
      · exact g
      · have := Int.mul_nonneg (a := k) (b := u) (by omega) g; omega
  by_cases h0 : α < 0
  · exfalso
    have s1 := (sgn _ _ _ ex).1 h0
    have s2 := (sgn _ _ _ ey).1 h0
    omega
  · by_cases h1 : α ≤ w
    · have b1 := bet_of hw (by omega) h1 ex
      have b2 := bet_of hw (by omega) h1 ey
      omega
    · exfalso
      have s1 := (sgn _ _ _ fx).2 (by omega)
      have s2 := (sgn _ _ _ fy).2 (by omega)
      omega
def diF (lx ly hx hy ax ay bx by' : Int) : Bool := meF ax ay bx by' lx ly hx hy || meF ax ay bx by' lx hy hx ly
end Go.Proofs.YtfobmlgpjhghdaaDoor
namespace Go.Proofs.YtfobmlgpjhghdaaDoor
set_option linter.unusedVariables false
open Go.ChangeShapes Go.WideShapes Go.ChangeAt Go.RowKit
theorem c_CheckPoint (x y : Int) (W : World) :
    Calls Tryd.prog 46 #[.agg #[.int .i64 x, .int .i64 y]] W fun e w' => e = .returned (if nearB x y = true then .nilIface else .iface 72 (.int .i64 2)) ∧ Gr W w' := by
  have A := c_near x y
  cases hq : nearB x y
  · rw [hq] at A
    have H1 := Lib.hid A
    rw [if_neg (by simp)]
    clear A hq
    go_enter Tryd.func46, Tryd.ntmps46
    go_wp2_with fail
    go_at_call 59
    refine ((H1.out _)).mono ?_
    rintro e w1 ⟨rfl, hw1⟩
    have cw1_0_0 : w1.cell? ⟨W.heap.size, 0, none⟩ = some (.int .i64 x) := cell_gr hw1 (by go_simp)
    have cw1_0_1 : w1.cell? ⟨W.heap.size, 1, none⟩ = some (.int .i64 y) := cell_gr hw1 (by go_simp)
    have zw1_0 : W.heap.size < w1.heap.size := World.block_lt_of_cell? _ _ cw1_0_0
    have gw1 : Gr W w1 := Gr.trans (by go_grown) hw1
    clear hw1
    go_wp2_with fail
    go_ret
    exact ⟨rfl, by go_grown⟩
  · rw [hq] at A
    have H1 := Lib.hid A
    rw [if_pos rfl]
    clear A hq
    go_enter Tryd.func46, Tryd.ntmps46
    go_wp2_with fail
    go_at_call 59
    refine ((H1.out _)).mono ?_
    rintro e w1 ⟨rfl, hw1⟩
    have cw1_0_0 : w1.cell? ⟨W.heap.size, 0, none⟩ = some (.int .i64 x) := cell_gr hw1 (by go_simp)
    have cw1_0_1 : w1.cell? ⟨W.heap.size, 1, none⟩ = some (.int .i64 y) := cell_gr hw1 (by go_simp)
    have zw1_0 : W.heap.size < w1.heap.size := World.block_lt_of_cell? _ _ cw1_0_0
    have gw1 : Gr W w1 := Gr.trans (by go_grown) hw1
    clear hw1
    go_wp2_with fail
    go_ret
    exact ⟨rfl, by go_grown⟩
theorem boxErr_code {lx ly hx hy : Int} (h : boxB lx ly hx hy = false) : ∃ z : Int, (z = 1 ∨ z = 2) ∧ boxErr lx ly hx hy = .iface 72 (.int .i64 z) ∧ boxCode lx ly hx hy = z := by
  unfold boxB at h
  unfold boxErr boxCode
  by_cases h1 : (nearB lx ly && nearB hx hy) = true
  · rw [if_pos h1, if_pos h1]
    by_cases h2 : (decide (lx ≤ hx) && decide (ly ≤ hy)) = true
    · rw [h1, Bool.true_and, h2] at h
      cases h
    · rw [if_neg h2, if_neg h2]
      exact ⟨1, Or.inl rfl, rfl, rfl⟩
  · rw [if_neg h1, if_neg h1]
    exact ⟨2, Or.inr rfl, rfl, rfl⟩
set_option maxHeartbeats 2000000 in
set_option maxRecDepth 100000 in
theorem c_rBoxHas (lx ly hx hy px py : Int) (W : World) :
    Calls Tryd.prog 25 #[.agg #[.int .i64 lx, .int .i64 ly, .int .i64 hx, .int .i64 hy], .agg #[.int .i64 px, .int .i64 py]] W fun e w' => e = .returned (.bool (boxB lx ly hx hy && nearB px py && inB lx ly hx hy px py)) ∧ Gr W w' := by
  obtain ⟨r, hr⟩ : ∃ r, r = (boxB lx ly hx hy && nearB px py && inB lx ly hx hy px py) := ⟨_, rfl⟩
  rw [← hr]
  obtain ⟨k1, e1⟩ : ∃ k, k = boxCode lx ly hx hy := ⟨_, rfl⟩
  obtain ⟨q2, e2⟩ : ∃ q, q = nearB px py := ⟨_, rfl⟩
  have M := c_rCheckBox lx ly hx hy
  have N := c_rPoint px py
  rw [← e1] at M
  rw [← e2] at N
  rw [← boxCode_zero, ← e1, ← e2] at hr
  have H1 := Lib.hid M
  have H2 := Lib.hid N
  clear M N e1 e2
  unfold inB at hr
  have hc : ((k1 == 0) = false ∧ r = false) ∨ (k1 = 0 ∧ q2 = false ∧ r = false) ∨ (k1 = 0 ∧ q2 = true ∧ ¬ lx ≤ px ∧ r = false) ∨ (k1 = 0 ∧ q2 = true ∧ lx ≤ px ∧ ¬ px ≤ hx ∧ r = false) ∨ (k1 = 0 ∧ q2 = true ∧ lx ≤ px ∧ px ≤ hx ∧ ¬ ly ≤ py ∧ r = false) ∨ (k1 = 0 ∧ q2 = true ∧ lx ≤ px ∧ px ≤ hx ∧ ly ≤ py ∧ ¬ py ≤ hy ∧ r = false) ∨ (k1 = 0 ∧ q2 = true ∧ lx ≤ px ∧ px ≤ hx ∧ ly ≤ py ∧ py ≤ hy ∧ r = true) := by
    by_cases z1 : k1 = 0
    · cases q2
      · right; left; exact ⟨z1, rfl, by rw [hr]; simp⟩
      · subst z1
        right; right
        by_cases a1 : lx ≤ px <;> by_cases a2 : px ≤ hx <;> by_cases a3 : ly ≤ py <;> by_cases a4 : py ≤ hy <;> simp [hr, a1, a2, a3, a4]
    · have : (k1 == 0) = false := by simpa using z1
      left; exact ⟨this, by rw [hr, this]; simp⟩
  clear hr
  rcases hc with ⟨z1, rfl⟩ | ⟨rfl, rfl, rfl⟩ | ⟨rfl, rfl, a1, rfl⟩ | ⟨rfl, rfl, a1, a2, rfl⟩ | ⟨rfl, rfl, a1, a2, a3, rfl⟩ | ⟨rfl, rfl, a1, a2, a3, a4, rfl⟩ | ⟨rfl, rfl, a1, a2, a3, a4, rfl⟩
  · go_enter Tryd.func25, Tryd.ntmps25
    go_wp2_with fail
    go_at_call 6
    refine ((H1.out _)).mono ?_
    rintro e w1 ⟨rfl, hw1⟩
    have cw1_0_0 : w1.cell? ⟨W.heap.size, 0, none⟩ = some (.int .i64 lx) := cell_gr hw1 (by go_simp)
    have cw1_0_1 : w1.cell? ⟨W.heap.size, 1, none⟩ = some (.int .i64 ly) := cell_gr hw1 (by go_simp)
    have cw1_0_2 : w1.cell? ⟨W.heap.size, 2, none⟩ = some (.int .i64 hx) := cell_gr hw1 (by go_simp)
    have cw1_0_3 : w1.cell? ⟨W.heap.size, 3, none⟩ = some (.int .i64 hy) := cell_gr hw1 (by go_simp)
    have zw1_0 : W.heap.size < w1.heap.size := World.block_lt_of_cell? _ _ cw1_0_0
    have cw1_1_0 : w1.cell? ⟨W.heap.size + 1, 0, none⟩ = some (.int .i64 px) := cell_gr hw1 (by go_simp)
    have cw1_1_1 : w1.cell? ⟨W.heap.size + 1, 1, none⟩ = some (.int .i64 py) := cell_gr hw1 (by go_simp)
    have zw1_1 : W.heap.size + 1 < w1.heap.size := World.block_lt_of_cell? _ _ cw1_1_0
    have gw1 : Gr W w1 := Gr.trans (by go_grown) hw1
    clear hw1
    go_wp2_with fail
    go_ret
    exact ⟨rfl, by go_grown⟩
  all_goals
    go_enter Tryd.func25, Tryd.ntmps25
    go_wp2_with fail
    go_at_call 6
    refine ((H1.out _)).mono ?_
    rintro e w1 ⟨rfl, hw1⟩
    have cw1_0_0 : w1.cell? ⟨W.heap.size, 0, none⟩ = some (.int .i64 lx) := cell_gr hw1 (by go_simp)
    have cw1_0_1 : w1.cell? ⟨W.heap.size, 1, none⟩ = some (.int .i64 ly) := cell_gr hw1 (by go_simp)
    have cw1_0_2 : w1.cell? ⟨W.heap.size, 2, none⟩ = some (.int .i64 hx) := cell_gr hw1 (by go_simp)
    have cw1_0_3 : w1.cell? ⟨W.heap.size, 3, none⟩ = some (.int .i64 hy) := cell_gr hw1 (by go_simp)
    have zw1_0 : W.heap.size < w1.heap.size := World.block_lt_of_cell? _ _ cw1_0_0
    have cw1_1_0 : w1.cell? ⟨W.heap.size + 1, 0, none⟩ = some (.int .i64 px) := cell_gr hw1 (by go_simp)
    have cw1_1_1 : w1.cell? ⟨W.heap.size + 1, 1, none⟩ = some (.int .i64 py) := cell_gr hw1 (by go_simp)
    have zw1_1 : W.heap.size + 1 < w1.heap.size := World.block_lt_of_cell? _ _ cw1_1_0
    have gw1 : Gr W w1 := Gr.trans (by go_grown) hw1
    clear hw1
    go_wp2_with fail
    go_at_call 18
    refine ((H2.out _)).mono ?_
    rintro e w2 ⟨rfl, hw2⟩
    have cw2_0_0 : w2.cell? ⟨W.heap.size, 0, none⟩ = some (.int .i64 lx) := cell_gr hw2 (by go_simp)
    have cw2_0_1 : w2.cell? ⟨W.heap.size, 1, none⟩ = some (.int .i64 ly) := cell_gr hw2 (by go_simp)
    have cw2_0_2 : w2.cell? ⟨W.heap.size, 2, none⟩ = some (.int .i64 hx) := cell_gr hw2 (by go_simp)
    have cw2_0_3 : w2.cell? ⟨W.heap.size, 3, none⟩ = some (.int .i64 hy) := cell_gr hw2 (by go_simp)
    have zw2_0 : W.heap.size < w2.heap.size := World.block_lt_of_cell? _ _ cw2_0_0
    have cw2_1_0 : w2.cell? ⟨W.heap.size + 1, 0, none⟩ = some (.int .i64 px) := cell_gr hw2 (by go_simp)
    have cw2_1_1 : w2.cell? ⟨W.heap.size + 1, 1, none⟩ = some (.int .i64 py) := cell_gr hw2 (by go_simp)
    have zw2_1 : W.heap.size + 1 < w2.heap.size := World.block_lt_of_cell? _ _ cw2_1_0
    have gw2 : Gr W w2 := Gr.trans (by have gg := gw1; have gs := gg.size; go_grown) hw2
    clear hw2 gw1 zw1_0 cw1_0_0 cw1_0_1 cw1_0_2 cw1_0_3 zw1_1 cw1_1_0 cw1_1_1
    go_wp2_with fail
    go_ret
    exact ⟨by first | rfl | simp [a4], by go_grown⟩
end Go.Proofs.YtfobmlgpjhghdaaDoor
namespace Go.Proofs.YtfobmlgpjhghdaaDoor
set_option linter.unusedVariables false
open Go.ChangeShapes Go.WideShapes Go.ChangeAt Go.RowKit
theorem is_typeOf (v : Value) (w : World) : (callFunc 60 #[.iface 72 v]).run Tryd.prog w = .ok (.value (.iface 97 (.agg #[.pointer (some ⟨Tryd.prog.globals.size, 72, none⟩)]))) w := by
  rw [@run_callFunc_extern Tryd.prog 60 _ Extern.ReflectliteType.typeOf Tryd.func60 (by kernel_rfl) (by kernel_rfl) (by kernel_rfl) (by kernel_rfl)]
  kernel_rfl
theorem is_comparable (w : World) : (callFunc 110 #[.agg #[.pointer (some ⟨Tryd.prog.globals.size, 72, none⟩)]]).run Tryd.prog w = .ok (.value (.bool true)) w := by
  rw [@run_callFunc_extern Tryd.prog 110 _ (Extern.ReflectliteType.method fun t => do Extern.Rtype.noPackHeld "Comparable" t; pure (.bool (← typeInfo t).comparable)) Tryd.func110 (by kernel_rfl) (by kernel_rfl) (by kernel_rfl) (by kernel_rfl)]
  kernel_rfl
theorem is_noIs (v : Value) (xT : TypeId) (w : World) : (Instr.typeAssert (.iface 72 v) xT 115 true).run Tryd.prog w = .ok (.tuple #[.nilIface, .bool false]) w := run_typeAssert_lacksB Tryd.underlying115 (by kernel_rfl) (by kernel_rfl) v xT w
theorem is_noUnwrap (v : Value) (xT : TypeId) (w : World) : (Instr.typeAssert (.iface 72 v) xT 104 true).run Tryd.prog w = .ok (.tuple #[.nilIface, .bool false]) w := run_typeAssert_lacksB Tryd.underlying104 (by kernel_rfl) (by kernel_rfl) v xT w
theorem is_noUnwraps (v : Value) (xT : TypeId) (w : World) : (Instr.typeAssert (.iface 72 v) xT 106 true).run Tryd.prog w = .ok (.tuple #[.nilIface, .bool false]) w := run_typeAssert_lacksB Tryd.underlying106 (by kernel_rfl) (by kernel_rfl) v xT w
theorem is_eql (i k : Int) (w : World) : (binOp .eql 41 (.iface 72 (.int .i64 i)) (.iface 72 (.int .i64 k))).run Tryd.prog w = .ok (.bool (i == k)) w := by kernel_rfl
theorem isF_noIs (v : Value) (xT : TypeId) (w : World) : (Instr.typeAssert (.iface 60 v) xT 115 true).run Tryd.prog w = .ok (.tuple #[.nilIface, .bool false]) w := run_typeAssert_lacksB Tryd.underlying115 (by kernel_rfl) (by kernel_rfl) v xT w
theorem isF_hasUnwrap (v : Value) (xT : TypeId) (w : World) : (Instr.typeAssert (.iface 60 v) xT 104 true).run Tryd.prog w = .ok (.tuple #[.iface 60 v, .bool true]) w := run_typeAssert_hasB Tryd.underlying104 (by kernel_rfl) v xT w
end Go.Proofs.YtfobmlgpjhghdaaDoor
namespace Go.Proofs.YtfobmlgpjhghdaaDoor
set_option linter.unusedVariables false
open Go.ChangeShapes Go.WideShapes Go.ChangeAt Go.RowKit Go.Extern.Stop Go.Stop Go.Extern
theorem as_valueOfT (t : Addr) (w : World) : (ReflectliteValue.unpack (.iface 62 (.pointer (some t)))).run Tryd.prog w
    = .ok (.agg #[.pointer (some ⟨Tryd.prog.globals.size, 62, none⟩), .pointer (some ⟨w.heap.size, 0, none⟩), .int .u64 150]) (w.alloc (.cells #[.pointer (some t)] 62)) := by kernel_rfl
theorem as_typeT (a : Addr) (w : World) : (ReflectliteValue.methodAny (ReflectliteValue.valueError "reflectlite.Value.Type" 0) (fun t _ _ _ => ReflectliteType.toType t) #[.agg #[.pointer (some ⟨Tryd.prog.globals.size, 62, none⟩), .pointer (some a), .int .u64 150]]).run Tryd.prog w
    = .ok (.iface 97 (.agg #[.pointer (some ⟨Tryd.prog.globals.size, 62, none⟩)])) w := by kernel_rfl
theorem as_methodKind (n : Nat) (h : Value) (w : World) : (Go.method (n + 1) 97 (.agg #[h]) "Kind").run Tryd.prog w = .ok (99, h) w := by kernel_rfl
theorem as_kindT (w : World) : ((ReflectliteType.abiMethod fun t => (fun a : Nat => Value.int IntKind.u8 (a : Int)) <$> Rtype.kind t) #[.pointer (some ⟨Tryd.prog.globals.size, 62, none⟩)]).run Tryd.prog w = .ok (.int .u8 22) w := by kernel_rfl
theorem as_kindF (w : World) : ((ReflectliteType.abiMethod fun t => (fun a : Nat => Value.int IntKind.u8 (a : Int)) <$> Rtype.kind t) #[.pointer (some ⟨Tryd.prog.globals.size, 60, none⟩)]).run Tryd.prog w = .ok (.int .u8 22) w := by kernel_rfl
theorem as_rlm (z : Sem Value) (f : TypeId → Addr → Nat → Nat → Sem Value) (v : Value) :
    ReflectliteValue.method z f #[v] = (do match ← ReflectliteValue.parts v with | none => z | some (t, a, fl) => f t a fl (fl % 32)) := rfl
theorem as_partsT (a : Addr) (w : World) : (ReflectliteValue.parts (.agg #[.pointer (some ⟨Tryd.prog.globals.size, 62, none⟩), .pointer (some a), .int .u64 150])).run Tryd.prog w = .ok (some (62, a, 150)) w := by kernel_rfl
theorem as_isNilT (a p : Addr) (W : World) (ha : W.cell? a = some (.pointer (some p))) :
    (ReflectliteValue.method (ReflectliteValue.valueError "reflectlite.Value.IsNil" 0) ReflectliteValue.isNil #[.agg #[.pointer (some ⟨Tryd.prog.globals.size, 62, none⟩), .pointer (some a), .int .u64 150]]).run Tryd.prog W = .ok (.bool false) W := by
  rw [as_rlm]
  simp only [Sem.run_bind, as_partsT, Result.andThen]
  simp [ReflectliteValue.isNil, loadVar, isAgg, underlying, Tryd.underlying62, ha, Result.andThen]
theorem as_methodElem (n : Nat) (h : Value) (w : World) : (Go.method (n + 1) 97 (.agg #[h]) "Elem").run Tryd.prog w = .ok (111, .agg #[h]) w := by kernel_rfl
theorem as_methodImplements (n : Nat) (h : Value) (w : World) : (Go.method (n + 1) 97 (.agg #[h]) "Implements").run Tryd.prog w = .ok (112, .agg #[h]) w := by kernel_rfl
theorem as_methodAssignableTo (n : Nat) (h : Value) (w : World) : (Go.method (n + 1) 97 (.agg #[h]) "AssignableTo").run Tryd.prog w = .ok (109, .agg #[h]) w := by kernel_rfl
theorem as_elemT (w : World) : (ReflectliteType.method ReflectliteType.elem #[.agg #[.pointer (some ⟨Tryd.prog.globals.size, 62, none⟩)]]).run Tryd.prog w = .ok (.iface 97 (.agg #[.pointer (some ⟨Tryd.prog.globals.size, 60, none⟩)])) w := by kernel_rfl
theorem as_implementsF (w : World) : (ReflectliteType.relation "Implements" ReflectliteType.implements_ #[.agg #[.pointer (some ⟨Tryd.prog.globals.size, 60, none⟩)], .iface 97 (.agg #[.pointer (some ⟨Tryd.prog.globals.size, 41, none⟩)])]).run Tryd.prog w = .ok (.bool true) w := by kernel_rfl
theorem as_typeOfF (v : Value) (w : World) : (ReflectliteType.typeOf #[.iface 60 v]).run Tryd.prog w = .ok (.iface 97 (.agg #[.pointer (some ⟨Tryd.prog.globals.size, 60, none⟩)])) w := by kernel_rfl
theorem as_assignableF (w : World) : (ReflectliteType.relation "AssignableTo" ReflectliteType.assignableTo #[.agg #[.pointer (some ⟨Tryd.prog.globals.size, 60, none⟩)], .iface 97 (.agg #[.pointer (some ⟨Tryd.prog.globals.size, 60, none⟩)])]).run Tryd.prog w = .ok (.bool true) w := by kernel_rfl
theorem as_valueOfF (e : Addr) (w : World) : (ReflectliteValue.unpack (.iface 60 (.pointer (some e)))).run Tryd.prog w
    = .ok (.agg #[.pointer (some ⟨Tryd.prog.globals.size, 60, none⟩), .pointer (some ⟨w.heap.size, 0, none⟩), .int .u64 150]) (w.alloc (.cells #[.pointer (some e)] 60)) := by kernel_rfl
theorem as_elemOfT (w : World) : (Rtype.elem? 62).run Tryd.prog w = .ok (some 60) w := by kernel_rfl
theorem as_mkF (p : Addr) (w : World) : (ReflectliteValue.mk 60 p ReflectliteValue.flagAddr).run Tryd.prog w = .ok (.agg #[.pointer (some ⟨Tryd.prog.globals.size, 60, none⟩), .pointer (some p), .int .u64 406]) w := by kernel_rfl
theorem as_elemVT (a p : Addr) (W : World) (ha : W.cell? a = some (.pointer (some p))) :
    (ReflectliteValue.method (ReflectliteValue.valueError "reflectlite.Value.Elem" 0) ReflectliteValue.elem #[.agg #[.pointer (some ⟨Tryd.prog.globals.size, 62, none⟩), .pointer (some a), .int .u64 150]]).run Tryd.prog W
      = .ok (.agg #[.pointer (some ⟨Tryd.prog.globals.size, 60, none⟩), .pointer (some p), .int .u64 406]) W := by
  rw [as_rlm]
  simp only [Sem.run_bind, as_partsT, Result.andThen]
  simp [ReflectliteValue.elem, loadVar, isAgg, underlying, Tryd.underlying62, ha, Result.andThen, as_elemOfT, as_mkF]
theorem as_rls (v x : Value) : ReflectliteValue.set #[v, x] = (do
    let (some (dst, a, fl), some (src, b, _)) := (← ReflectliteValue.parts v, ← ReflectliteValue.parts x)
      | unsupported (.noEntry "extern/(internal/reflectlite.Value).Set.zeroValue")
    if fl / ReflectliteValue.flagAddr % 2 == 0 then unsupported (.noEntry "extern/(internal/reflectlite.Value).Set.unaddressable")
    let val ← loadVar src b
    if ← Rtype.directlyAssignable dst src then storeVar dst a val
    else if ← Rtype.implements dst src then
      if (← Rtype.kind src) == 20 then
        match val with
        | .nilIface => unsupported (.noEntry "extern/reflectlite: a nil value of one interface type handed on as a value of another")
        | _ => storeVar dst a val
      else storeVar dst a (.iface src val)
    else panicString ("reflectlite.Set: value of type " ++ (← Rtype.spelt src) ++ " is not assignable to type " ++ (← Rtype.spelt dst))
    pure (.tuple #[])) := rfl
theorem as_partsFa (a : Addr) (w : World) : (ReflectliteValue.parts (.agg #[.pointer (some ⟨Tryd.prog.globals.size, 60, none⟩), .pointer (some a), .int .u64 406])).run Tryd.prog w = .ok (some (60, a, 406)) w := by kernel_rfl
theorem as_partsF (a : Addr) (w : World) : (ReflectliteValue.parts (.agg #[.pointer (some ⟨Tryd.prog.globals.size, 60, none⟩), .pointer (some a), .int .u64 150])).run Tryd.prog w = .ok (some (60, a, 150)) w := by kernel_rfl
theorem as_directF (w : World) : (Rtype.directlyAssignable 60 60).run Tryd.prog w = .ok true w := by kernel_rfl
theorem as_setF (ta b e : Addr) (old : Value) (W : World) (hb : W.cell? b = some (.pointer (some e))) (ht : W.cell? ta = some old) (hf : W.frozen? ta = false) :
    (ReflectliteValue.set #[.agg #[.pointer (some ⟨Tryd.prog.globals.size, 60, none⟩), .pointer (some ta), .int .u64 406], .agg #[.pointer (some ⟨Tryd.prog.globals.size, 60, none⟩), .pointer (some b), .int .u64 150]]).run Tryd.prog W
      = .ok (.tuple #[]) (W.setCell ta (.pointer (some e))) := by
  rw [as_rls]
  simp only [Sem.run_bind, as_partsFa, as_partsF, Result.andThen]
  simp [ReflectliteValue.flagAddr, loadVar, isAgg, underlying, Tryd.underlying60, hb, Result.andThen, as_directF, storeVar, Value.cells, storeCells, Addr.add]
  rw [run_store Tryd.prog W ta _ _ (by rfl)]
  simp [ht, hf]
set_option maxHeartbeats 4000000 in
set_option maxRecDepth 100000 in
theorem as_hit (e t : Addr) (old : Value) (w : World) (hg : w.cell? ⟨0, 0, none⟩ = some (.iface 97 (.agg #[.pointer (some ⟨Tryd.prog.globals.size, 41, none⟩)]))) (ht0 : w.cell? t = some old) (hf0 : w.frozen? t = false) :
    Calls Tryd.prog 31 #[.iface 60 (.pointer (some e)), .iface 62 (.pointer (some t))] w fun ev w' => ev = .returned (.bool true) ∧ ∃ wx, Gr w wx ∧ w' = wx.setCell t (.pointer (some e)) := by
  have h6 := @run_callFunc_extern Tryd.prog 42 _ (fun args => ReflectliteValue.unpack (args.getD 0 (.tuple #[]))) Tryd.func42 (by kernel_rfl) (by kernel_rfl) (by kernel_rfl) (by kernel_rfl)
  have h7 := @run_callFunc_extern Tryd.prog 43 _ (ReflectliteValue.methodAny (ReflectliteValue.valueError "reflectlite.Value.Type" 0) (fun t _ _ _ => ReflectliteType.toType t)) Tryd.func43 (by kernel_rfl) (by kernel_rfl) (by kernel_rfl) (by kernel_rfl)
  have h8 := @run_callFunc_extern Tryd.prog 44 _ (ReflectliteValue.method (ReflectliteValue.valueError "reflectlite.Value.IsNil" 0) ReflectliteValue.isNil) Tryd.func44 (by kernel_rfl) (by kernel_rfl) (by kernel_rfl) (by kernel_rfl)
  have h27 := @run_callFunc_extern Tryd.prog 99 _ (ReflectliteType.abiMethod fun t => do pure (.int .u8 (← Rtype.kind t))) Tryd.func99 (by kernel_rfl) (by kernel_rfl) (by kernel_rfl) (by kernel_rfl)
  have h37 := @run_callFunc_extern Tryd.prog 111 _ (ReflectliteType.method ReflectliteType.elem) Tryd.func111 (by kernel_rfl) (by kernel_rfl) (by kernel_rfl) (by kernel_rfl)
  have h38 := @run_callFunc_extern Tryd.prog 112 _ (ReflectliteType.relation "Implements" ReflectliteType.implements_) Tryd.func112 (by kernel_rfl) (by kernel_rfl) (by kernel_rfl) (by kernel_rfl)
  have h10 := @run_callFunc_extern Tryd.prog 60 _ ReflectliteType.typeOf Tryd.func60 (by kernel_rfl) (by kernel_rfl) (by kernel_rfl) (by kernel_rfl)
  have h35 := @run_callFunc_extern Tryd.prog 109 _ (ReflectliteType.relation "AssignableTo" ReflectliteType.assignableTo) Tryd.func109 (by kernel_rfl) (by kernel_rfl) (by kernel_rfl) (by kernel_rfl)
  have h11 := @run_callFunc_extern Tryd.prog 62 _ (ReflectliteValue.method (ReflectliteValue.valueError "reflectlite.Value.Elem" 0) ReflectliteValue.elem) Tryd.func62 (by kernel_rfl) (by kernel_rfl) (by kernel_rfl) (by kernel_rfl)
  have h12 := @run_callFunc_extern Tryd.prog 63 _ ReflectliteValue.set Tryd.func63 (by kernel_rfl) (by kernel_rfl) (by kernel_rfl) (by kernel_rfl)
  have tO := as_typeOfF
  have mA := as_methodAssignableTo
  have aF := as_assignableF
  have vF := as_valueOfF
  have f6 := as_valueOfT
  have f7 := as_typeT
  have mK := as_methodKind
  have mE := as_methodElem
  have mI := as_methodImplements
  have kT := as_kindT
  have kF := as_kindF
  have eT := as_elemT
  have iF := as_implementsF
  have hlt := World.block_lt_of_cell? _ _ hg
  have htl := World.block_lt_of_cell? _ _ ht0
  have n8 := as_isNilT ⟨w.heap.size, 0, none⟩ t
  have el := as_elemVT ⟨w.heap.size, 0, none⟩ t
  have st := as_setF t ⟨w.heap.size + 1 + 1 + 1, 0, none⟩ e old
  generalize Tryd.prog.globals.size = n at tO mA aF vF f6 f7 mK mE mI kT kF eT iF n8 el st hg
  replace n8 := n8 ((w.alloc (.cells #[.pointer (some t)] 62)).alloc (.cells #[.pointer (some ⟨n, 62, none⟩), .pointer (some ⟨w.heap.size, 0, none⟩), .int .u64 150] 78)) (by simp)
  have hg2 : ((w.alloc (.cells #[.pointer (some t)] 62)).alloc (.cells #[.pointer (some ⟨n, 62, none⟩), .pointer (some ⟨w.heap.size, 0, none⟩), .int .u64 150] 78)).cell? ⟨0, 0, none⟩ = some (.iface 97 (.agg #[.pointer (some ⟨n, 41, none⟩)])) := by
    rw [World.cell?_alloc_lt _ _ ⟨0, 0, none⟩ (by simp <;> omega), World.cell?_alloc_lt _ _ ⟨0, 0, none⟩ hlt]; exact hg
  replace el := el (((w.alloc (.cells #[.pointer (some t)] 62)).alloc (.cells #[.pointer (some ⟨n, 62, none⟩), .pointer (some ⟨w.heap.size, 0, none⟩), .int .u64 150] 78)).alloc (.cells #[.pointer (some ⟨n, 62, none⟩), .pointer (some ⟨w.heap.size, 0, none⟩), .int .u64 150] 78)) (by rw [World.cell?_alloc_lt _ _ ⟨w.heap.size, 0, none⟩ (by simp; omega)]; simp)
  replace st := st ((((w.alloc (.cells #[.pointer (some t)] 62)).alloc (.cells #[.pointer (some ⟨n, 62, none⟩), .pointer (some ⟨w.heap.size, 0, none⟩), .int .u64 150] 78)).alloc (.cells #[.pointer (some ⟨n, 62, none⟩), .pointer (some ⟨w.heap.size, 0, none⟩), .int .u64 150] 78)).alloc (.cells #[.pointer (some e)] 60))
    (by rw [World.cell?_alloc_at _ _ _ _ (by simp)]; rfl)
    (by rw [World.cell?_alloc_lt _ _ t (by simp; omega), World.cell?_alloc_lt _ _ t (by simp; omega), World.cell?_alloc_lt _ _ t (by simp; omega), World.cell?_alloc_lt _ _ t htl]; exact ht0)
    (by rw [World.frozen?_alloc_old _ _ t (by simp; omega), World.frozen?_alloc_old _ _ t (by simp; omega), World.frozen?_alloc_old _ _ t (by simp; omega), World.frozen?_alloc_old _ _ t (Nat.ne_of_lt htl)]; exact hf0)
  go_enter Tryd.func31, Tryd.ntmps31
  go_wp2
  refine wp_loop_rounds 1 ?_
  rw [rounds_succ]
  go_wp2
  go_ret
  exact ⟨rfl, _, by go_grown, rfl⟩
end Go.Proofs.YtfobmlgpjhghdaaDoor
namespace Go.Proofs.YtfobmlgpjhghdaaDoor
set_option linter.unusedVariables false
open Go.ChangeShapes Go.WideShapes Go.ChangeAt Go.RowKit
def ErrT (w : World) : Prop := w.cell? ⟨0, 0, none⟩ = some (.iface 97 (.agg #[.pointer (some ⟨Tryd.prog.globals.size, 41, none⟩)]))
theorem errT_gr {a b : World} (h : ErrT a) (g : Gr a b) : ErrT b := cell_gr g h
def FaultAt (w : World) (b : Nat) (op : ByteArray) (id k : Int) : Prop := w.cell? ⟨b, 0, none⟩ = some (.string op) ∧ w.cell? ⟨b, 1, none⟩ = some (.int .i64 id) ∧ w.cell? ⟨b, 2, none⟩ = some (.iface 72 (.int .i64 k))
theorem c_Code_nil2 (w : World) : Calls Tryd.prog 30 #[.nilIface] w fun e w' => e = .returned (.int .i64 0) ∧ Gr w w' := by
  go_enter Tryd.func30, Tryd.ntmps30
  go_wp2
  go_ret
  exact ⟨rfl, by go_grown⟩
set_option maxHeartbeats 1000000 in
set_option maxRecDepth 100000 in
theorem code_core (T : TypeId) (v : Value) (k : Nat) (hk : 1 ≤ k ∧ k ≤ 15) (w : World) (hn : (T = 60 ∨ T = 72))
    (A : ∀ (i : Nat) wr, Gr w wr → Calls Tryd.prog 41 #[.iface T v, .iface 72 (.int .i64 i)] wr fun e w' => e = .returned (.bool (decide (k = i))) ∧ Gr wr w') :
    Calls Tryd.prog 30 #[.iface T v] w fun e w' => e = .returned (.int .i64 k) ∧ Gr w w' := by
  have H1 := Lib.hid A
  have HK := Lib.hid hk
  clear A hk
  rcases hn with rfl | rfl
  all_goals
    go_enter Tryd.func30, Tryd.ntmps30
    go_wp2_with fail
    go_loopg [3] k (fun j v wr => ∃ i : Nat, i + j = k ∧ 1 ≤ i + 1 ∧ v = .int .i64 ((i : Int) + 1) ∧ i < k ∧ Gr w wr)
    case atStart => exact ⟨0, by omega, by omega, rfl, by have := HK.out; omega, by go_grown⟩
    case round =>
      obtain ⟨i, hj, -, rfl, hik, gwr⟩ := hrel
      have t1 : decide ((i : Int) + 1 ≤ 15) = true := decide_eq_true (by have := HK.out; omega)
      have bnd : (i : Int) + 1 ≤ 15 := by have := HK.out; omega
      have C := H1.out (i + 1)
      rw [show (((i + 1 : Nat) : Int)) = (i : Int) + 1 by omega] at C
      by_cases he : k = i + 1
      · rw [decide_eq_true he] at C
        have H2 := Lib.hid C
        have HE := Lib.hid he
        clear C he
        go_wp2_with fail
        go_at_call 41
        refine ((H2.out _ (by have gg := gwr; have gs := gg.size; go_grown))).mono ?_
        rintro e w1 ⟨rfl, hw1⟩
        have gw1 : Gr w w1 := Gr.trans (by have gg := gwr; have gs := gg.size; go_grown) hw1
        clear hw1 gwr
        go_wp2_with fail
        go_ret
        exact ⟨by rw [HE.out]; rfl, by have gg := gw1; have gs := gg.size; go_grown⟩
      · rw [decide_eq_false he] at C
        have H2 := Lib.hid C
        have HE := Lib.hid he
        clear C he
        go_wp2_with fail
        go_at_call 41
        refine ((H2.out _ (by have gg := gwr; have gs := gg.size; go_grown))).mono ?_
        rintro e w1 ⟨rfl, hw1⟩
        have gw1 : Gr w w1 := Gr.trans (by have gg := gwr; have gs := gg.size; go_grown) hw1
        clear hw1 gwr
        go_wp2_with fail
        go_roundg (k - (i + 1))
        case measure => omega
        case rel => exact ⟨i + 1, by omega, by omega, by go_num, by have := HE.out; omega, by have gg := gw1; have gs := gg.size; go_grown⟩
set_option maxRecDepth 100000 in
theorem c_AlIs_nil (op : ByteArray) (id : Int) (w : World) : Calls Tryd.prog 20 #[.nilIface, .int .i64 0, .string op, .int .i64 id] w fun e w' => e = .returned (.bool true) ∧ Gr w w' := by
  go_enter Tryd.func20, Tryd.ntmps20
  go_wp2_with fail
  go_at_call 30
  refine ((c_Code_nil2 _)).mono ?_
  rintro e w1 ⟨rfl, hw1⟩
  have gw1 : Gr w w1 := Gr.trans (by go_grown) hw1
  clear hw1
  go_wp2_with fail
  go_ret
  exact ⟨rfl, gw1⟩
end Go.Proofs.YtfobmlgpjhghdaaDoor
namespace Go.Proofs.YtfobmlgpjhghdaaDoor
set_option linter.unusedVariables false
open Go.ChangeShapes Go.WideShapes Go.ChangeAt Go.RowKit
def accMin (A : Nat → Int) : Nat → Int
  | 0 => A 0
  | k + 1 => minZ (accMin A k) (A k)
def accMax (A : Nat → Int) : Nat → Int
  | 0 => A 0
  | k + 1 => maxZ (accMax A k) (A k)
set_option maxHeartbeats 2000000 in
set_option maxRecDepth 100000 in
theorem c_rUnionN (n cap : Nat) (A B C D : Nat → Int) (b off : Nat) (w : World) (hn : 1 ≤ n) (hn2 : n ≤ 200) (R : Value)
    (hc : ∀ k, k < n → w.cell? ⟨b, off + k * 4, none⟩ = some (.int .i64 (A k)) ∧ w.cell? ⟨b, off + k * 4 + 1, none⟩ = some (.int .i64 (B k)) ∧ w.cell? ⟨b, off + k * 4 + 2, none⟩ = some (.int .i64 (C k)) ∧ w.cell? ⟨b, off + k * 4 + 3, none⟩ = some (.int .i64 (D k)))
    (r1 : ∀ j, j < n → allBox A B C D j = true → boxB (A j) (B j) (C j) (D j) = false → R = .tuple #[.agg #[.int .i64 0, .int .i64 0, .int .i64 0, .int .i64 0], .int .i64 (boxCode (A j) (B j) (C j) (D j))])
    (r2 : allBox A B C D n = true → R = .tuple #[.agg #[.int .i64 (accMin A n), .int .i64 (accMin B n), .int .i64 (accMax C n), .int .i64 (accMax D n)], .int .i64 0]) :
    Calls Tryd.prog 8 #[.slice (some ⟨b, off, none⟩) n cap] w fun e w' => e = .returned R ∧ Gr w w' := by
  have t1 : ((n : Int) == 0) = false := by simp; omega
  have t2 : ((n : Int) != 0) = true := by simp; omega
  have t3 : (0 : Int) < (n : Int) := by omega
  have t4 : 0 < n := by omega
  have k0 : w.cell? ⟨b, off, none⟩ = some (.int .i64 (A 0)) := by simpa using (hc 0 (by omega)).1
  have k1 : w.cell? ⟨b, off + 1, none⟩ = some (.int .i64 (B 0)) := by simpa using (hc 0 (by omega)).2.1
  have k2 : w.cell? ⟨b, off + 2, none⟩ = some (.int .i64 (C 0)) := by simpa using (hc 0 (by omega)).2.2.1
  have k3 : w.cell? ⟨b, off + 3, none⟩ = some (.int .i64 (D 0)) := by simpa using (hc 0 (by omega)).2.2.2
  have hblt := World.block_lt_of_cell? _ _ k0
  have HC := Lib.hid hc
  have HR1 := Lib.hid r1
  have HR2 := Lib.hid r2
  clear hc r1 r2
  go_enter Tryd.func8, Tryd.ntmps8
  go_wp2_with fail
  have hne : ¬ b = w.heap.size := by omega
  have hne1 : ¬ b = w.heap.size + 1 := by omega
  go_loopg [5] n (fun k v wr => ∃ i : Nat, i + k = n ∧ v = .int .i64 i ∧ allBox A B C D i = true ∧ wr.cell? ⟨w.heap.size, 0, none⟩ = some (.int .i64 0) ∧ wr.cell? ⟨w.heap.size, 1, none⟩ = some (.int .i64 0) ∧ wr.cell? ⟨w.heap.size, 2, none⟩ = some (.int .i64 0) ∧ wr.cell? ⟨w.heap.size, 3, none⟩ = some (.int .i64 0) ∧ wr.frozen? ⟨w.heap.size, 0, none⟩ = false ∧ wr.frozen? ⟨w.heap.size, 1, none⟩ = false ∧ wr.frozen? ⟨w.heap.size, 2, none⟩ = false ∧ wr.frozen? ⟨w.heap.size, 3, none⟩ = false ∧ wr.cell? ⟨w.heap.size + 1, 0, none⟩ = some (.int .i64 (accMin A i)) ∧ wr.cell? ⟨w.heap.size + 1, 1, none⟩ = some (.int .i64 (accMin B i)) ∧ wr.cell? ⟨w.heap.size + 1, 2, none⟩ = some (.int .i64 (accMax C i)) ∧ wr.cell? ⟨w.heap.size + 1, 3, none⟩ = some (.int .i64 (accMax D i)) ∧ wr.frozen? ⟨w.heap.size + 1, 0, none⟩ = false ∧ wr.frozen? ⟨w.heap.size + 1, 1, none⟩ = false ∧ wr.frozen? ⟨w.heap.size + 1, 2, none⟩ = false ∧ wr.frozen? ⟨w.heap.size + 1, 3, none⟩ = false ∧ Gr w wr)
  case atStart => exact ⟨0, by omega, rfl, rfl, by go_simp, by go_simp, by go_simp, by go_simp, by go_simp, by go_simp, by go_simp, by go_simp, by unfold accMin; go_simp, by unfold accMin; go_simp, by unfold accMax; go_simp, by unfold accMax; go_simp, by go_simp, by go_simp, by go_simp, by go_simp, by go_grown⟩
  case round =>
    obtain ⟨i, hk, rfl, hall, c0, c1, c2, c3, f0, f1, f2, f3, a0, a1, a2, a3, g0, g1, g2, g3, gwr⟩ := hrel
    have zwr0 := World.block_lt_of_cell? _ _ c0
    have zwr := World.block_lt_of_cell? _ _ a0
    by_cases hin : i < n
    · have ti : decide ((i : Int) < (n : Int)) = true := decide_eq_true (by omega)
      have ti2 : decide (i < n) = true := decide_eq_true hin
      have ti3 : (i : Int) < (n : Int) := by omega
      have s0 := cell_gr gwr (HC.out i hin).1
      have s1 := cell_gr gwr (HC.out i hin).2.1
      have s2 := cell_gr gwr (HC.out i hin).2.2.1
      have s3 := cell_gr gwr (HC.out i hin).2.2.2
      clear k0 k1 k2 k3
      have K := c_rCheckBox (A i) (B i) (C i) (D i)
      by_cases hb : boxB (A i) (B i) (C i) (D i) = true
      · have e : allBox A B C D (i + 1) = true := by simp only [allBox, hall, hb]; rfl
        have HE := Lib.hid e
        have ec0 : boxCode (A i) (B i) (C i) (D i) = 0 := by
          have := boxCode_zero (lx := A i) (ly := B i) (hx := C i) (hy := D i)
          rw [hb] at this
          simpa using this
        rw [ec0] at K
        have H1 := Lib.hid K
        obtain ⟨xa, ea⟩ : ∃ x, x = accMin A i := ⟨_, rfl⟩
        obtain ⟨xb, eb⟩ : ∃ x, x = accMin B i := ⟨_, rfl⟩
        obtain ⟨xc, ec⟩ : ∃ x, x = accMax C i := ⟨_, rfl⟩
        obtain ⟨xd, ed⟩ : ∃ x, x = accMax D i := ⟨_, rfl⟩
        obtain ⟨ya, ea'⟩ : ∃ x, x = minZ (accMin A i) (A i) := ⟨_, rfl⟩
        obtain ⟨yb, eb'⟩ : ∃ x, x = minZ (accMin B i) (B i) := ⟨_, rfl⟩
        obtain ⟨yc, ec'⟩ : ∃ x, x = maxZ (accMax C i) (C i) := ⟨_, rfl⟩
        obtain ⟨yd, ed'⟩ : ∃ x, x = maxZ (accMax D i) (D i) := ⟨_, rfl⟩
        have m1 : ∀ w, (Builtin.min_ #[3, 3] 3 #[.int .i64 xa, .int .i64 (A i)]).run Tryd.prog w = .ok (.int .i64 ya) w := fun w => by rw [ea', ← ea]; simp [Builtin.min_, Builtin.min2, go_sem, minZ]
        have m2 : ∀ w, (Builtin.min_ #[3, 3] 3 #[.int .i64 xb, .int .i64 (B i)]).run Tryd.prog w = .ok (.int .i64 yb) w := fun w => by rw [eb', ← eb]; simp [Builtin.min_, Builtin.min2, go_sem, minZ]
        have m3 : ∀ w, (Builtin.max_ #[3, 3] 3 #[.int .i64 xc, .int .i64 (C i)]).run Tryd.prog w = .ok (.int .i64 yc) w := fun w => by rw [ec', ← ec]; simp [Builtin.max_, Builtin.max2, go_sem, maxZ]
        have m4 : ∀ w, (Builtin.max_ #[3, 3] 3 #[.int .i64 xd, .int .i64 (D i)]).run Tryd.prog w = .ok (.int .i64 yd) w := fun w => by rw [ed', ← ed]; simp [Builtin.max_, Builtin.max2, go_sem, maxZ]
        rw [← ea] at a0
        rw [← eb] at a1
        rw [← ec] at a2
        rw [← ed] at a3
        have HY := Lib.hid (And.intro ea' (And.intro eb' (And.intro ec' ed')))
        clear e hall hb ea eb ec ed ea' eb' ec' ed' ec0 K
        go_wp2_with fail
        go_at_call 6
        refine ((H1.out _)).mono ?_
        rintro e w1 ⟨rfl, hw1⟩
        have cw1_0_0 : w1.cell? ⟨w.heap.size, 0, none⟩ = some (.int .i64 0) := cell_gr hw1 (by go_simp)
        have fw1_0_0 : w1.frozen? ⟨w.heap.size, 0, none⟩ = false := frozen_gr (v := .int .i64 0) hw1 (by go_simp) (by go_simp)
        have cw1_0_1 : w1.cell? ⟨w.heap.size, 1, none⟩ = some (.int .i64 0) := cell_gr hw1 (by go_simp)
        have fw1_0_1 : w1.frozen? ⟨w.heap.size, 1, none⟩ = false := frozen_gr (v := .int .i64 0) hw1 (by go_simp) (by go_simp)
        have cw1_0_2 : w1.cell? ⟨w.heap.size, 2, none⟩ = some (.int .i64 0) := cell_gr hw1 (by go_simp)
        have fw1_0_2 : w1.frozen? ⟨w.heap.size, 2, none⟩ = false := frozen_gr (v := .int .i64 0) hw1 (by go_simp) (by go_simp)
        have cw1_0_3 : w1.cell? ⟨w.heap.size, 3, none⟩ = some (.int .i64 0) := cell_gr hw1 (by go_simp)
        have fw1_0_3 : w1.frozen? ⟨w.heap.size, 3, none⟩ = false := frozen_gr (v := .int .i64 0) hw1 (by go_simp) (by go_simp)
        have zw1_0 : w.heap.size < w1.heap.size := World.block_lt_of_cell? _ _ cw1_0_0
        have cw1_1_0 : w1.cell? ⟨w.heap.size + 1, 0, none⟩ = some (.int .i64 xa) := cell_gr hw1 (by go_simp)
        have fw1_1_0 : w1.frozen? ⟨w.heap.size + 1, 0, none⟩ = false := frozen_gr (v := .int .i64 xa) hw1 (by go_simp) (by go_simp)
        have cw1_1_1 : w1.cell? ⟨w.heap.size + 1, 1, none⟩ = some (.int .i64 xb) := cell_gr hw1 (by go_simp)
        have fw1_1_1 : w1.frozen? ⟨w.heap.size + 1, 1, none⟩ = false := frozen_gr (v := .int .i64 xb) hw1 (by go_simp) (by go_simp)
        have cw1_1_2 : w1.cell? ⟨w.heap.size + 1, 2, none⟩ = some (.int .i64 xc) := cell_gr hw1 (by go_simp)
        have fw1_1_2 : w1.frozen? ⟨w.heap.size + 1, 2, none⟩ = false := frozen_gr (v := .int .i64 xc) hw1 (by go_simp) (by go_simp)
        have cw1_1_3 : w1.cell? ⟨w.heap.size + 1, 3, none⟩ = some (.int .i64 xd) := cell_gr hw1 (by go_simp)
        have fw1_1_3 : w1.frozen? ⟨w.heap.size + 1, 3, none⟩ = false := frozen_gr (v := .int .i64 xd) hw1 (by go_simp) (by go_simp)
        have zw1_1 : w.heap.size + 1 < w1.heap.size := World.block_lt_of_cell? _ _ cw1_1_0
        have gw1 : Gr w w1 := Gr.trans (by have gg := gwr; have gs := gg.size; go_grown) hw1
        clear hw1 gwr
        clear s0 s1 s2 s3
        have s0 := cell_gr gw1 (HC.out i hin).1
        have s1 := cell_gr gw1 (HC.out i hin).2.1
        have s2 := cell_gr gw1 (HC.out i hin).2.2.1
        have s3 := cell_gr gw1 (HC.out i hin).2.2.2
        go_wp2_with fail
        refine Hd.wp_region_tail 12 (by kernel_rfl) (by kernel_rfl) ?_
        intro KQ hKQ
        repeat (first | (refine Hd.wpG_skip (by decide) rfl ?_; simp only [Act.put, List.setIfInBounds_toArray, List.set_cons_zero, List.set_cons_succ]) | (refine Hd.wpG_want (by decide) rfl ?_; apply Exists.intro; refine ⟨?_, ?_⟩; (· intro wx gx; (obtain ⟨mx, rfl⟩ := gx); all_goals (apply Hd.gAt_of_quiet; intro K hK; go_big_quiet_op; first | exact hK _ rfl | (apply Exists.intro; refine ⟨fun _ => ?_, ?_⟩; (· fail); exact hK _ rfl))); try simp only [Act.put, List.setIfInBounds_toArray, List.set_cons_zero, List.set_cons_succ]))
        refine Hd.wpG_nil (hKQ _ ?_)
        clear hKQ KQ
        intro w2 hhw2
        have hw2 := Hd.gr_of_spread hhw2
        have cw2_0_0 : w2.cell? ⟨w.heap.size, 0, none⟩ = some (.int .i64 0) := cell_gr hw2 (by go_simp)
        have fw2_0_0 : w2.frozen? ⟨w.heap.size, 0, none⟩ = false := frozen_gr (v := .int .i64 0) hw2 (by go_simp) (by go_simp)
        have cw2_0_1 : w2.cell? ⟨w.heap.size, 1, none⟩ = some (.int .i64 0) := cell_gr hw2 (by go_simp)
        have fw2_0_1 : w2.frozen? ⟨w.heap.size, 1, none⟩ = false := frozen_gr (v := .int .i64 0) hw2 (by go_simp) (by go_simp)
        have cw2_0_2 : w2.cell? ⟨w.heap.size, 2, none⟩ = some (.int .i64 0) := cell_gr hw2 (by go_simp)
        have fw2_0_2 : w2.frozen? ⟨w.heap.size, 2, none⟩ = false := frozen_gr (v := .int .i64 0) hw2 (by go_simp) (by go_simp)
        have cw2_0_3 : w2.cell? ⟨w.heap.size, 3, none⟩ = some (.int .i64 0) := cell_gr hw2 (by go_simp)
        have fw2_0_3 : w2.frozen? ⟨w.heap.size, 3, none⟩ = false := frozen_gr (v := .int .i64 0) hw2 (by go_simp) (by go_simp)
        have zw2_0 : w.heap.size < w2.heap.size := World.block_lt_of_cell? _ _ cw2_0_0
        have cw2_1_0 : w2.cell? ⟨w.heap.size + 1, 0, none⟩ = some (.int .i64 xa) := cell_gr hw2 (by go_simp)
        have fw2_1_0 : w2.frozen? ⟨w.heap.size + 1, 0, none⟩ = false := frozen_gr (v := .int .i64 xa) hw2 (by go_simp) (by go_simp)
        have cw2_1_1 : w2.cell? ⟨w.heap.size + 1, 1, none⟩ = some (.int .i64 xb) := cell_gr hw2 (by go_simp)
        have fw2_1_1 : w2.frozen? ⟨w.heap.size + 1, 1, none⟩ = false := frozen_gr (v := .int .i64 xb) hw2 (by go_simp) (by go_simp)
        have cw2_1_2 : w2.cell? ⟨w.heap.size + 1, 2, none⟩ = some (.int .i64 xc) := cell_gr hw2 (by go_simp)
        have fw2_1_2 : w2.frozen? ⟨w.heap.size + 1, 2, none⟩ = false := frozen_gr (v := .int .i64 xc) hw2 (by go_simp) (by go_simp)
        have cw2_1_3 : w2.cell? ⟨w.heap.size + 1, 3, none⟩ = some (.int .i64 xd) := cell_gr hw2 (by go_simp)
        have fw2_1_3 : w2.frozen? ⟨w.heap.size + 1, 3, none⟩ = false := frozen_gr (v := .int .i64 xd) hw2 (by go_simp) (by go_simp)
        have zw2_1 : w.heap.size + 1 < w2.heap.size := World.block_lt_of_cell? _ _ cw2_1_0
        have gw2 : Gr w w2 := Gr.trans (by have gg := gw1; have gs := gg.size; go_grown) hw2
        clear hw2 hhw2 gw1 zw1_0 cw1_0_0 fw1_0_0 cw1_0_1 fw1_0_1 cw1_0_2 fw1_0_2 cw1_0_3 fw1_0_3 zw1_1 cw1_1_0 fw1_1_0 cw1_1_1 fw1_1_1 cw1_1_2 fw1_1_2 cw1_1_3 fw1_1_3
        clear s0 s1 s2 s3
        have s0 := cell_gr gw2 (HC.out i hin).1
        have s1 := cell_gr gw2 (HC.out i hin).2.1
        have s2 := cell_gr gw2 (HC.out i hin).2.2.1
        have s3 := cell_gr gw2 (HC.out i hin).2.2.2
        go_wp2_with fail
        generalize hhw3 : (w2.setCell ⟨w.heap.size + 1, 0, none⟩ (.int .i64 ya)) = w3
        have cw3_0_0 : w3.cell? ⟨w.heap.size, 0, none⟩ = some (.int .i64 0) := by subst hhw3; go_simp
        have fw3_0_0 : w3.frozen? ⟨w.heap.size, 0, none⟩ = false := by subst hhw3; go_simp
        have cw3_0_1 : w3.cell? ⟨w.heap.size, 1, none⟩ = some (.int .i64 0) := by subst hhw3; go_simp
        have fw3_0_1 : w3.frozen? ⟨w.heap.size, 1, none⟩ = false := by subst hhw3; go_simp
        have cw3_0_2 : w3.cell? ⟨w.heap.size, 2, none⟩ = some (.int .i64 0) := by subst hhw3; go_simp
        have fw3_0_2 : w3.frozen? ⟨w.heap.size, 2, none⟩ = false := by subst hhw3; go_simp
        have cw3_0_3 : w3.cell? ⟨w.heap.size, 3, none⟩ = some (.int .i64 0) := by subst hhw3; go_simp
        have fw3_0_3 : w3.frozen? ⟨w.heap.size, 3, none⟩ = false := by subst hhw3; go_simp
        have zw3_0 : w.heap.size < w3.heap.size := World.block_lt_of_cell? _ _ cw3_0_0
        have cw3_1_0 : w3.cell? ⟨w.heap.size + 1, 0, none⟩ = some (.int .i64 ya) := by subst hhw3; go_simp
        have fw3_1_0 : w3.frozen? ⟨w.heap.size + 1, 0, none⟩ = false := by subst hhw3; go_simp
        have cw3_1_1 : w3.cell? ⟨w.heap.size + 1, 1, none⟩ = some (.int .i64 xb) := by subst hhw3; go_simp
        have fw3_1_1 : w3.frozen? ⟨w.heap.size + 1, 1, none⟩ = false := by subst hhw3; go_simp
        have cw3_1_2 : w3.cell? ⟨w.heap.size + 1, 2, none⟩ = some (.int .i64 xc) := by subst hhw3; go_simp
        have fw3_1_2 : w3.frozen? ⟨w.heap.size + 1, 2, none⟩ = false := by subst hhw3; go_simp
        have cw3_1_3 : w3.cell? ⟨w.heap.size + 1, 3, none⟩ = some (.int .i64 xd) := by subst hhw3; go_simp
        have fw3_1_3 : w3.frozen? ⟨w.heap.size + 1, 3, none⟩ = false := by subst hhw3; go_simp
        have zw3_1 : w.heap.size + 1 < w3.heap.size := World.block_lt_of_cell? _ _ cw3_1_0
        have gw3 : Gr w w3 := by subst hhw3; have gg := gw2; have gs := gg.size; go_grown
        clear hhw3 gw2 zw2_0 cw2_0_0 fw2_0_0 cw2_0_1 fw2_0_1 cw2_0_2 fw2_0_2 cw2_0_3 fw2_0_3 zw2_1 cw2_1_0 fw2_1_0 cw2_1_1 fw2_1_1 cw2_1_2 fw2_1_2 cw2_1_3 fw2_1_3
        clear s0 s1 s2 s3
        have s0 := cell_gr gw3 (HC.out i hin).1
        have s1 := cell_gr gw3 (HC.out i hin).2.1
        have s2 := cell_gr gw3 (HC.out i hin).2.2.1
        have s3 := cell_gr gw3 (HC.out i hin).2.2.2
        go_wp2_with fail
        refine Hd.wp_region_tail 12 (by kernel_rfl) (by kernel_rfl) ?_
        intro KQ hKQ
        repeat (first | (refine Hd.wpG_skip (by decide) rfl ?_; simp only [Act.put, List.setIfInBounds_toArray, List.set_cons_zero, List.set_cons_succ]) | (refine Hd.wpG_want (by decide) rfl ?_; apply Exists.intro; refine ⟨?_, ?_⟩; (· intro wx gx; (obtain ⟨mx, rfl⟩ := gx); all_goals (apply Hd.gAt_of_quiet; intro K hK; go_big_quiet_op; first | exact hK _ rfl | (apply Exists.intro; refine ⟨fun _ => ?_, ?_⟩; (· fail); exact hK _ rfl))); try simp only [Act.put, List.setIfInBounds_toArray, List.set_cons_zero, List.set_cons_succ]))
        refine Hd.wpG_nil (hKQ _ ?_)
        clear hKQ KQ
        intro w4 hhw4
        have hw4 := Hd.gr_of_spread hhw4
        have cw4_0_0 : w4.cell? ⟨w.heap.size, 0, none⟩ = some (.int .i64 0) := cell_gr hw4 (by go_simp)
        have fw4_0_0 : w4.frozen? ⟨w.heap.size, 0, none⟩ = false := frozen_gr (v := .int .i64 0) hw4 (by go_simp) (by go_simp)
        have cw4_0_1 : w4.cell? ⟨w.heap.size, 1, none⟩ = some (.int .i64 0) := cell_gr hw4 (by go_simp)
        have fw4_0_1 : w4.frozen? ⟨w.heap.size, 1, none⟩ = false := frozen_gr (v := .int .i64 0) hw4 (by go_simp) (by go_simp)
        have cw4_0_2 : w4.cell? ⟨w.heap.size, 2, none⟩ = some (.int .i64 0) := cell_gr hw4 (by go_simp)
        have fw4_0_2 : w4.frozen? ⟨w.heap.size, 2, none⟩ = false := frozen_gr (v := .int .i64 0) hw4 (by go_simp) (by go_simp)
        have cw4_0_3 : w4.cell? ⟨w.heap.size, 3, none⟩ = some (.int .i64 0) := cell_gr hw4 (by go_simp)
        have fw4_0_3 : w4.frozen? ⟨w.heap.size, 3, none⟩ = false := frozen_gr (v := .int .i64 0) hw4 (by go_simp) (by go_simp)
        have zw4_0 : w.heap.size < w4.heap.size := World.block_lt_of_cell? _ _ cw4_0_0
        have cw4_1_0 : w4.cell? ⟨w.heap.size + 1, 0, none⟩ = some (.int .i64 ya) := cell_gr hw4 (by go_simp)
        have fw4_1_0 : w4.frozen? ⟨w.heap.size + 1, 0, none⟩ = false := frozen_gr (v := .int .i64 ya) hw4 (by go_simp) (by go_simp)
        have cw4_1_1 : w4.cell? ⟨w.heap.size + 1, 1, none⟩ = some (.int .i64 xb) := cell_gr hw4 (by go_simp)
        have fw4_1_1 : w4.frozen? ⟨w.heap.size + 1, 1, none⟩ = false := frozen_gr (v := .int .i64 xb) hw4 (by go_simp) (by go_simp)
        have cw4_1_2 : w4.cell? ⟨w.heap.size + 1, 2, none⟩ = some (.int .i64 xc) := cell_gr hw4 (by go_simp)
        have fw4_1_2 : w4.frozen? ⟨w.heap.size + 1, 2, none⟩ = false := frozen_gr (v := .int .i64 xc) hw4 (by go_simp) (by go_simp)
        have cw4_1_3 : w4.cell? ⟨w.heap.size + 1, 3, none⟩ = some (.int .i64 xd) := cell_gr hw4 (by go_simp)
        have fw4_1_3 : w4.frozen? ⟨w.heap.size + 1, 3, none⟩ = false := frozen_gr (v := .int .i64 xd) hw4 (by go_simp) (by go_simp)
        have zw4_1 : w.heap.size + 1 < w4.heap.size := World.block_lt_of_cell? _ _ cw4_1_0
        have gw4 : Gr w w4 := Gr.trans (by have gg := gw3; have gs := gg.size; go_grown) hw4
        clear hw4 hhw4 gw3 zw3_0 cw3_0_0 fw3_0_0 cw3_0_1 fw3_0_1 cw3_0_2 fw3_0_2 cw3_0_3 fw3_0_3 zw3_1 cw3_1_0 fw3_1_0 cw3_1_1 fw3_1_1 cw3_1_2 fw3_1_2 cw3_1_3 fw3_1_3
        clear s0 s1 s2 s3
        have s0 := cell_gr gw4 (HC.out i hin).1
        have s1 := cell_gr gw4 (HC.out i hin).2.1
        have s2 := cell_gr gw4 (HC.out i hin).2.2.1
        have s3 := cell_gr gw4 (HC.out i hin).2.2.2
        go_wp2_with fail
        generalize hhw5 : (w4.setCell ⟨w.heap.size + 1, 1, none⟩ (.int .i64 yb)) = w5
        have cw5_0_0 : w5.cell? ⟨w.heap.size, 0, none⟩ = some (.int .i64 0) := by subst hhw5; go_simp
        have fw5_0_0 : w5.frozen? ⟨w.heap.size, 0, none⟩ = false := by subst hhw5; go_simp
        have cw5_0_1 : w5.cell? ⟨w.heap.size, 1, none⟩ = some (.int .i64 0) := by subst hhw5; go_simp
        have fw5_0_1 : w5.frozen? ⟨w.heap.size, 1, none⟩ = false := by subst hhw5; go_simp
        have cw5_0_2 : w5.cell? ⟨w.heap.size, 2, none⟩ = some (.int .i64 0) := by subst hhw5; go_simp
        have fw5_0_2 : w5.frozen? ⟨w.heap.size, 2, none⟩ = false := by subst hhw5; go_simp
        have cw5_0_3 : w5.cell? ⟨w.heap.size, 3, none⟩ = some (.int .i64 0) := by subst hhw5; go_simp
        have fw5_0_3 : w5.frozen? ⟨w.heap.size, 3, none⟩ = false := by subst hhw5; go_simp
        have zw5_0 : w.heap.size < w5.heap.size := World.block_lt_of_cell? _ _ cw5_0_0
        have cw5_1_0 : w5.cell? ⟨w.heap.size + 1, 0, none⟩ = some (.int .i64 ya) := by subst hhw5; go_simp
        have fw5_1_0 : w5.frozen? ⟨w.heap.size + 1, 0, none⟩ = false := by subst hhw5; go_simp
        have cw5_1_1 : w5.cell? ⟨w.heap.size + 1, 1, none⟩ = some (.int .i64 yb) := by subst hhw5; go_simp
        have fw5_1_1 : w5.frozen? ⟨w.heap.size + 1, 1, none⟩ = false := by subst hhw5; go_simp
        have cw5_1_2 : w5.cell? ⟨w.heap.size + 1, 2, none⟩ = some (.int .i64 xc) := by subst hhw5; go_simp
        have fw5_1_2 : w5.frozen? ⟨w.heap.size + 1, 2, none⟩ = false := by subst hhw5; go_simp
        have cw5_1_3 : w5.cell? ⟨w.heap.size + 1, 3, none⟩ = some (.int .i64 xd) := by subst hhw5; go_simp
        have fw5_1_3 : w5.frozen? ⟨w.heap.size + 1, 3, none⟩ = false := by subst hhw5; go_simp
        have zw5_1 : w.heap.size + 1 < w5.heap.size := World.block_lt_of_cell? _ _ cw5_1_0
        have gw5 : Gr w w5 := by subst hhw5; have gg := gw4; have gs := gg.size; go_grown
        clear hhw5 gw4 zw4_0 cw4_0_0 fw4_0_0 cw4_0_1 fw4_0_1 cw4_0_2 fw4_0_2 cw4_0_3 fw4_0_3 zw4_1 cw4_1_0 fw4_1_0 cw4_1_1 fw4_1_1 cw4_1_2 fw4_1_2 cw4_1_3 fw4_1_3
        clear s0 s1 s2 s3
        have s0 := cell_gr gw5 (HC.out i hin).1
        have s1 := cell_gr gw5 (HC.out i hin).2.1
        have s2 := cell_gr gw5 (HC.out i hin).2.2.1
        have s3 := cell_gr gw5 (HC.out i hin).2.2.2
        go_wp2_with fail
        refine Hd.wp_region_tail 12 (by kernel_rfl) (by kernel_rfl) ?_
        intro KQ hKQ
        repeat (first | (refine Hd.wpG_skip (by decide) rfl ?_; simp only [Act.put, List.setIfInBounds_toArray, List.set_cons_zero, List.set_cons_succ]) | (refine Hd.wpG_want (by decide) rfl ?_; apply Exists.intro; refine ⟨?_, ?_⟩; (· intro wx gx; (obtain ⟨mx, rfl⟩ := gx); all_goals (apply Hd.gAt_of_quiet; intro K hK; go_big_quiet_op; first | exact hK _ rfl | (apply Exists.intro; refine ⟨fun _ => ?_, ?_⟩; (· fail); exact hK _ rfl))); try simp only [Act.put, List.setIfInBounds_toArray, List.set_cons_zero, List.set_cons_succ]))
        refine Hd.wpG_nil (hKQ _ ?_)
        clear hKQ KQ
        intro w6 hhw6
        have hw6 := Hd.gr_of_spread hhw6
        have cw6_0_0 : w6.cell? ⟨w.heap.size, 0, none⟩ = some (.int .i64 0) := cell_gr hw6 (by go_simp)
        have fw6_0_0 : w6.frozen? ⟨w.heap.size, 0, none⟩ = false := frozen_gr (v := .int .i64 0) hw6 (by go_simp) (by go_simp)
        have cw6_0_1 : w6.cell? ⟨w.heap.size, 1, none⟩ = some (.int .i64 0) := cell_gr hw6 (by go_simp)
        have fw6_0_1 : w6.frozen? ⟨w.heap.size, 1, none⟩ = false := frozen_gr (v := .int .i64 0) hw6 (by go_simp) (by go_simp)
        have cw6_0_2 : w6.cell? ⟨w.heap.size, 2, none⟩ = some (.int .i64 0) := cell_gr hw6 (by go_simp)
        have fw6_0_2 : w6.frozen? ⟨w.heap.size, 2, none⟩ = false := frozen_gr (v := .int .i64 0) hw6 (by go_simp) (by go_simp)
        have cw6_0_3 : w6.cell? ⟨w.heap.size, 3, none⟩ = some (.int .i64 0) := cell_gr hw6 (by go_simp)
        have fw6_0_3 : w6.frozen? ⟨w.heap.size, 3, none⟩ = false := frozen_gr (v := .int .i64 0) hw6 (by go_simp) (by go_simp)
        have zw6_0 : w.heap.size < w6.heap.size := World.block_lt_of_cell? _ _ cw6_0_0
        have cw6_1_0 : w6.cell? ⟨w.heap.size + 1, 0, none⟩ = some (.int .i64 ya) := cell_gr hw6 (by go_simp)
        have fw6_1_0 : w6.frozen? ⟨w.heap.size + 1, 0, none⟩ = false := frozen_gr (v := .int .i64 ya) hw6 (by go_simp) (by go_simp)
        have cw6_1_1 : w6.cell? ⟨w.heap.size + 1, 1, none⟩ = some (.int .i64 yb) := cell_gr hw6 (by go_simp)
        have fw6_1_1 : w6.frozen? ⟨w.heap.size + 1, 1, none⟩ = false := frozen_gr (v := .int .i64 yb) hw6 (by go_simp) (by go_simp)
        have cw6_1_2 : w6.cell? ⟨w.heap.size + 1, 2, none⟩ = some (.int .i64 xc) := cell_gr hw6 (by go_simp)
        have fw6_1_2 : w6.frozen? ⟨w.heap.size + 1, 2, none⟩ = false := frozen_gr (v := .int .i64 xc) hw6 (by go_simp) (by go_simp)
        have cw6_1_3 : w6.cell? ⟨w.heap.size + 1, 3, none⟩ = some (.int .i64 xd) := cell_gr hw6 (by go_simp)
        have fw6_1_3 : w6.frozen? ⟨w.heap.size + 1, 3, none⟩ = false := frozen_gr (v := .int .i64 xd) hw6 (by go_simp) (by go_simp)
        have zw6_1 : w.heap.size + 1 < w6.heap.size := World.block_lt_of_cell? _ _ cw6_1_0
        have gw6 : Gr w w6 := Gr.trans (by have gg := gw5; have gs := gg.size; go_grown) hw6
        clear hw6 hhw6 gw5 zw5_0 cw5_0_0 fw5_0_0 cw5_0_1 fw5_0_1 cw5_0_2 fw5_0_2 cw5_0_3 fw5_0_3 zw5_1 cw5_1_0 fw5_1_0 cw5_1_1 fw5_1_1 cw5_1_2 fw5_1_2 cw5_1_3 fw5_1_3
        clear s0 s1 s2 s3
        have s0 := cell_gr gw6 (HC.out i hin).1
        have s1 := cell_gr gw6 (HC.out i hin).2.1
        have s2 := cell_gr gw6 (HC.out i hin).2.2.1
        have s3 := cell_gr gw6 (HC.out i hin).2.2.2
        go_wp2_with fail
        generalize hhw7 : (w6.setCell ⟨w.heap.size + 1, 2, none⟩ (.int .i64 yc)) = w7
        have cw7_0_0 : w7.cell? ⟨w.heap.size, 0, none⟩ = some (.int .i64 0) := by subst hhw7; go_simp
        have fw7_0_0 : w7.frozen? ⟨w.heap.size, 0, none⟩ = false := by subst hhw7; go_simp
        have cw7_0_1 : w7.cell? ⟨w.heap.size, 1, none⟩ = some (.int .i64 0) := by subst hhw7; go_simp
        have fw7_0_1 : w7.frozen? ⟨w.heap.size, 1, none⟩ = false := by subst hhw7; go_simp
        have cw7_0_2 : w7.cell? ⟨w.heap.size, 2, none⟩ = some (.int .i64 0) := by subst hhw7; go_simp
        have fw7_0_2 : w7.frozen? ⟨w.heap.size, 2, none⟩ = false := by subst hhw7; go_simp
        have cw7_0_3 : w7.cell? ⟨w.heap.size, 3, none⟩ = some (.int .i64 0) := by subst hhw7; go_simp
        have fw7_0_3 : w7.frozen? ⟨w.heap.size, 3, none⟩ = false := by subst hhw7; go_simp
        have zw7_0 : w.heap.size < w7.heap.size := World.block_lt_of_cell? _ _ cw7_0_0
        have cw7_1_0 : w7.cell? ⟨w.heap.size + 1, 0, none⟩ = some (.int .i64 ya) := by subst hhw7; go_simp
        have fw7_1_0 : w7.frozen? ⟨w.heap.size + 1, 0, none⟩ = false := by subst hhw7; go_simp
        have cw7_1_1 : w7.cell? ⟨w.heap.size + 1, 1, none⟩ = some (.int .i64 yb) := by subst hhw7; go_simp
        have fw7_1_1 : w7.frozen? ⟨w.heap.size + 1, 1, none⟩ = false := by subst hhw7; go_simp
        have cw7_1_2 : w7.cell? ⟨w.heap.size + 1, 2, none⟩ = some (.int .i64 yc) := by subst hhw7; go_simp
        have fw7_1_2 : w7.frozen? ⟨w.heap.size + 1, 2, none⟩ = false := by subst hhw7; go_simp
        have cw7_1_3 : w7.cell? ⟨w.heap.size + 1, 3, none⟩ = some (.int .i64 xd) := by subst hhw7; go_simp
        have fw7_1_3 : w7.frozen? ⟨w.heap.size + 1, 3, none⟩ = false := by subst hhw7; go_simp
        have zw7_1 : w.heap.size + 1 < w7.heap.size := World.block_lt_of_cell? _ _ cw7_1_0
        have gw7 : Gr w w7 := by subst hhw7; have gg := gw6; have gs := gg.size; go_grown
        clear hhw7 gw6 zw6_0 cw6_0_0 fw6_0_0 cw6_0_1 fw6_0_1 cw6_0_2 fw6_0_2 cw6_0_3 fw6_0_3 zw6_1 cw6_1_0 fw6_1_0 cw6_1_1 fw6_1_1 cw6_1_2 fw6_1_2 cw6_1_3 fw6_1_3
        clear s0 s1 s2 s3
        have s0 := cell_gr gw7 (HC.out i hin).1
        have s1 := cell_gr gw7 (HC.out i hin).2.1
        have s2 := cell_gr gw7 (HC.out i hin).2.2.1
        have s3 := cell_gr gw7 (HC.out i hin).2.2.2
        go_wp2_with fail
        refine Hd.wp_region_tail 12 (by kernel_rfl) (by kernel_rfl) ?_
        intro KQ hKQ
        repeat (first | (refine Hd.wpG_skip (by decide) rfl ?_; simp only [Act.put, List.setIfInBounds_toArray, List.set_cons_zero, List.set_cons_succ]) | (refine Hd.wpG_want (by decide) rfl ?_; apply Exists.intro; refine ⟨?_, ?_⟩; (· intro wx gx; (obtain ⟨mx, rfl⟩ := gx); all_goals (apply Hd.gAt_of_quiet; intro K hK; go_big_quiet_op; first | exact hK _ rfl | (apply Exists.intro; refine ⟨fun _ => ?_, ?_⟩; (· fail); exact hK _ rfl))); try simp only [Act.put, List.setIfInBounds_toArray, List.set_cons_zero, List.set_cons_succ]))
        refine Hd.wpG_nil (hKQ _ ?_)
        clear hKQ KQ
        intro w8 hhw8
        have hw8 := Hd.gr_of_spread hhw8
        have cw8_0_0 : w8.cell? ⟨w.heap.size, 0, none⟩ = some (.int .i64 0) := cell_gr hw8 (by go_simp)
        have fw8_0_0 : w8.frozen? ⟨w.heap.size, 0, none⟩ = false := frozen_gr (v := .int .i64 0) hw8 (by go_simp) (by go_simp)
        have cw8_0_1 : w8.cell? ⟨w.heap.size, 1, none⟩ = some (.int .i64 0) := cell_gr hw8 (by go_simp)
        have fw8_0_1 : w8.frozen? ⟨w.heap.size, 1, none⟩ = false := frozen_gr (v := .int .i64 0) hw8 (by go_simp) (by go_simp)
        have cw8_0_2 : w8.cell? ⟨w.heap.size, 2, none⟩ = some (.int .i64 0) := cell_gr hw8 (by go_simp)
        have fw8_0_2 : w8.frozen? ⟨w.heap.size, 2, none⟩ = false := frozen_gr (v := .int .i64 0) hw8 (by go_simp) (by go_simp)
        have cw8_0_3 : w8.cell? ⟨w.heap.size, 3, none⟩ = some (.int .i64 0) := cell_gr hw8 (by go_simp)
        have fw8_0_3 : w8.frozen? ⟨w.heap.size, 3, none⟩ = false := frozen_gr (v := .int .i64 0) hw8 (by go_simp) (by go_simp)
        have zw8_0 : w.heap.size < w8.heap.size := World.block_lt_of_cell? _ _ cw8_0_0
        have cw8_1_0 : w8.cell? ⟨w.heap.size + 1, 0, none⟩ = some (.int .i64 ya) := cell_gr hw8 (by go_simp)
        have fw8_1_0 : w8.frozen? ⟨w.heap.size + 1, 0, none⟩ = false := frozen_gr (v := .int .i64 ya) hw8 (by go_simp) (by go_simp)
        have cw8_1_1 : w8.cell? ⟨w.heap.size + 1, 1, none⟩ = some (.int .i64 yb) := cell_gr hw8 (by go_simp)
        have fw8_1_1 : w8.frozen? ⟨w.heap.size + 1, 1, none⟩ = false := frozen_gr (v := .int .i64 yb) hw8 (by go_simp) (by go_simp)
        have cw8_1_2 : w8.cell? ⟨w.heap.size + 1, 2, none⟩ = some (.int .i64 yc) := cell_gr hw8 (by go_simp)
        have fw8_1_2 : w8.frozen? ⟨w.heap.size + 1, 2, none⟩ = false := frozen_gr (v := .int .i64 yc) hw8 (by go_simp) (by go_simp)
        have cw8_1_3 : w8.cell? ⟨w.heap.size + 1, 3, none⟩ = some (.int .i64 xd) := cell_gr hw8 (by go_simp)
        have fw8_1_3 : w8.frozen? ⟨w.heap.size + 1, 3, none⟩ = false := frozen_gr (v := .int .i64 xd) hw8 (by go_simp) (by go_simp)
        have zw8_1 : w.heap.size + 1 < w8.heap.size := World.block_lt_of_cell? _ _ cw8_1_0
        have gw8 : Gr w w8 := Gr.trans (by have gg := gw7; have gs := gg.size; go_grown) hw8
        clear hw8 hhw8 gw7 zw7_0 cw7_0_0 fw7_0_0 cw7_0_1 fw7_0_1 cw7_0_2 fw7_0_2 cw7_0_3 fw7_0_3 zw7_1 cw7_1_0 fw7_1_0 cw7_1_1 fw7_1_1 cw7_1_2 fw7_1_2 cw7_1_3 fw7_1_3
        clear s0 s1 s2 s3
        have s0 := cell_gr gw8 (HC.out i hin).1
        have s1 := cell_gr gw8 (HC.out i hin).2.1
        have s2 := cell_gr gw8 (HC.out i hin).2.2.1
        have s3 := cell_gr gw8 (HC.out i hin).2.2.2
        go_wp2_with fail
        go_roundg (n - (i + 1))
        case measure => omega
        case rel => exact ⟨i + 1, by omega, by go_num, HE.out, by go_simp, by go_simp, by go_simp, by go_simp, by go_simp, by go_simp, by go_simp, by go_simp, by show _ = some (Value.int .i64 (minZ (accMin A i) (A i))); rw [← HY.out.1]; go_simp, by show _ = some (Value.int .i64 (minZ (accMin B i) (B i))); rw [← HY.out.2.1]; go_simp, by show _ = some (Value.int .i64 (maxZ (accMax C i) (C i))); rw [← HY.out.2.2.1]; go_simp, by show _ = some (Value.int .i64 (maxZ (accMax D i) (D i))); rw [← HY.out.2.2.2]; go_simp, by go_simp, by go_simp, by go_simp, by go_simp, by have gg := gw8; have gs := gg.size; go_grown⟩
      · have hb' : boxB (A i) (B i) (C i) (D i) = false := by simpa using hb
        have hR := HR1.out i hin hall hb'
        obtain ⟨z, hz, -, ez⟩ := boxErr_code hb'
        rw [ez] at K hR
        have HR := Lib.hid hR
        have HH := Lib.hid K
        clear hR hb hb' K ez hall
        have z1 : (z == 0) = false := by rcases hz with rfl | rfl <;> rfl
        have z2 : (z != 0) = true := by rcases hz with rfl | rfl <;> rfl
        clear hz
        go_wp2_with fail
        go_at_call 6
        refine ((HH.out _)).mono ?_
        rintro e w1 ⟨rfl, hw1⟩
        have cw1_0_0 : w1.cell? ⟨w.heap.size, 0, none⟩ = some (.int .i64 0) := cell_gr hw1 (by go_simp)
        have fw1_0_0 : w1.frozen? ⟨w.heap.size, 0, none⟩ = false := frozen_gr (v := .int .i64 0) hw1 (by go_simp) (by go_simp)
        have cw1_0_1 : w1.cell? ⟨w.heap.size, 1, none⟩ = some (.int .i64 0) := cell_gr hw1 (by go_simp)
        have fw1_0_1 : w1.frozen? ⟨w.heap.size, 1, none⟩ = false := frozen_gr (v := .int .i64 0) hw1 (by go_simp) (by go_simp)
        have cw1_0_2 : w1.cell? ⟨w.heap.size, 2, none⟩ = some (.int .i64 0) := cell_gr hw1 (by go_simp)
        have fw1_0_2 : w1.frozen? ⟨w.heap.size, 2, none⟩ = false := frozen_gr (v := .int .i64 0) hw1 (by go_simp) (by go_simp)
        have cw1_0_3 : w1.cell? ⟨w.heap.size, 3, none⟩ = some (.int .i64 0) := cell_gr hw1 (by go_simp)
        have fw1_0_3 : w1.frozen? ⟨w.heap.size, 3, none⟩ = false := frozen_gr (v := .int .i64 0) hw1 (by go_simp) (by go_simp)
        have zw1_0 : w.heap.size < w1.heap.size := World.block_lt_of_cell? _ _ cw1_0_0
        have gw1 : Gr w w1 := Gr.trans (by have gg := gwr; have gs := gg.size; go_grown) hw1
        clear hw1 gwr
        go_wp2_with fail
        refine bodyPost_ret (v := .tuple #[.agg #[.int .i64 0, .int .i64 0, .int .i64 0, .int .i64 0], .int .i64 z]) (by simp [results, Tryd.results8, go_sem, *]) rfl ⟨by rw [HR.out], by have gg := gw1; have gs := gg.size; go_grown⟩
    · obtain rfl : i = n := by omega
      have hR := HR2.out hall
      have HR := Lib.hid hR
      clear hR hall k0 k1 k2 k3
      have ti : decide ((i : Int) < (i : Int)) = false := decide_eq_false (by omega)
      go_wp2_with fail
      refine bodyPost_ret (v := .tuple #[.agg #[.int .i64 (accMin A i), .int .i64 (accMin B i), .int .i64 (accMax C i), .int .i64 (accMax D i)], .int .i64 0]) (by simp [results, Tryd.results8, go_sem, *]) rfl ⟨by rw [HR.out], by have gg := gwr; have gs := gg.size; go_grown⟩
end Go.Proofs.YtfobmlgpjhghdaaDoor
namespace Go.Proofs.YtfobmlgpjhghdaaDoor
set_option linter.unusedVariables false
open Go.ChangeShapes Go.WideShapes Go.ChangeAt Go.RowKit
set_option maxHeartbeats 1000000 in
set_option maxRecDepth 100000 in
theorem c_rCross (ax ay bx by' cx cy : Int) (W : World) :
    Calls Tryd.prog 53 #[.agg #[.int .i64 ax, .int .i64 ay], .agg #[.int .i64 bx, .int .i64 by'], .agg #[.int .i64 cx, .int .i64 cy]] W fun e w' => e = .returned (.int .i64 (crossZ ax ay bx by' cx cy)) ∧ Gr W w' := by
  obtain ⟨q1, e1⟩ : ∃ q, q = nearB ax ay := ⟨_, rfl⟩
  obtain ⟨q2, e2⟩ : ∃ q, q = nearB bx by' := ⟨_, rfl⟩
  obtain ⟨q3, e3⟩ : ∃ q, q = nearB cx cy := ⟨_, rfl⟩
  have A1 := c_rPoint ax ay
  have A2 := c_rPoint bx by'
  have A3 := c_rPoint cx cy
  rw [← e1] at A1
  rw [← e2] at A2
  rw [← e3] at A3
  have H1 := Lib.hid A1
  have H2 := Lib.hid A2
  have H3 := Lib.hid A3
  clear A1 A2 A3
  unfold crossZ
  rw [← e1, ← e2, ← e3]
  have hc : q1 = false ∨ (q1 = true ∧ q2 = false) ∨ (q1 = true ∧ q2 = true ∧ q3 = false) ∨ (q1 = true ∧ q2 = true ∧ q3 = true) := by cases q1 <;> cases q2 <;> cases q3 <;> simp
  rcases hc with rfl | ⟨rfl, rfl⟩ | ⟨rfl, rfl, rfl⟩ | ⟨rfl, rfl, rfl⟩
  · clear e1 e2 e3
    go_enter Tryd.func53, Tryd.ntmps53
    go_wp2_with fail
    go_at_call 18
    refine ((H1.out _)).mono ?_
    rintro e w1 ⟨rfl, hw1⟩
    have cw1_0_0 : w1.cell? ⟨W.heap.size, 0, none⟩ = some (.int .i64 ax) := cell_gr hw1 (by go_simp)
    have cw1_0_1 : w1.cell? ⟨W.heap.size, 1, none⟩ = some (.int .i64 ay) := cell_gr hw1 (by go_simp)
    have zw1_0 : W.heap.size < w1.heap.size := World.block_lt_of_cell? _ _ cw1_0_0
    have cw1_1_0 : w1.cell? ⟨W.heap.size + 1, 0, none⟩ = some (.int .i64 bx) := cell_gr hw1 (by go_simp)
    have cw1_1_1 : w1.cell? ⟨W.heap.size + 1, 1, none⟩ = some (.int .i64 by') := cell_gr hw1 (by go_simp)
    have zw1_1 : W.heap.size + 1 < w1.heap.size := World.block_lt_of_cell? _ _ cw1_1_0
    have cw1_2_0 : w1.cell? ⟨W.heap.size + 1 + 1, 0, none⟩ = some (.int .i64 cx) := cell_gr hw1 (by go_simp)
    have cw1_2_1 : w1.cell? ⟨W.heap.size + 1 + 1, 1, none⟩ = some (.int .i64 cy) := cell_gr hw1 (by go_simp)
    have zw1_2 : W.heap.size + 1 + 1 < w1.heap.size := World.block_lt_of_cell? _ _ cw1_2_0
    have gw1 : Gr W w1 := Gr.trans (by go_grown) hw1
    clear hw1
    go_wp2_with fail
    go_ret
    exact ⟨rfl, by go_grown⟩
  · clear e1 e2 e3
    go_enter Tryd.func53, Tryd.ntmps53
    go_wp2_with fail
    go_at_call 18
    refine ((H1.out _)).mono ?_
    rintro e w1 ⟨rfl, hw1⟩
    have cw1_0_0 : w1.cell? ⟨W.heap.size, 0, none⟩ = some (.int .i64 ax) := cell_gr hw1 (by go_simp)
    have cw1_0_1 : w1.cell? ⟨W.heap.size, 1, none⟩ = some (.int .i64 ay) := cell_gr hw1 (by go_simp)
    have zw1_0 : W.heap.size < w1.heap.size := World.block_lt_of_cell? _ _ cw1_0_0
    have cw1_1_0 : w1.cell? ⟨W.heap.size + 1, 0, none⟩ = some (.int .i64 bx) := cell_gr hw1 (by go_simp)
    have cw1_1_1 : w1.cell? ⟨W.heap.size + 1, 1, none⟩ = some (.int .i64 by') := cell_gr hw1 (by go_simp)
    have zw1_1 : W.heap.size + 1 < w1.heap.size := World.block_lt_of_cell? _ _ cw1_1_0
    have cw1_2_0 : w1.cell? ⟨W.heap.size + 1 + 1, 0, none⟩ = some (.int .i64 cx) := cell_gr hw1 (by go_simp)
    have cw1_2_1 : w1.cell? ⟨W.heap.size + 1 + 1, 1, none⟩ = some (.int .i64 cy) := cell_gr hw1 (by go_simp)
    have zw1_2 : W.heap.size + 1 + 1 < w1.heap.size := World.block_lt_of_cell? _ _ cw1_2_0
    have gw1 : Gr W w1 := Gr.trans (by go_grown) hw1
    clear hw1
    go_wp2_with fail
    go_at_call 18
    refine ((H2.out _)).mono ?_
    rintro e w2 ⟨rfl, hw2⟩
    have cw2_0_0 : w2.cell? ⟨W.heap.size, 0, none⟩ = some (.int .i64 ax) := cell_gr hw2 (by go_simp)
    have cw2_0_1 : w2.cell? ⟨W.heap.size, 1, none⟩ = some (.int .i64 ay) := cell_gr hw2 (by go_simp)
    have zw2_0 : W.heap.size < w2.heap.size := World.block_lt_of_cell? _ _ cw2_0_0
    have cw2_1_0 : w2.cell? ⟨W.heap.size + 1, 0, none⟩ = some (.int .i64 bx) := cell_gr hw2 (by go_simp)
    have cw2_1_1 : w2.cell? ⟨W.heap.size + 1, 1, none⟩ = some (.int .i64 by') := cell_gr hw2 (by go_simp)
    have zw2_1 : W.heap.size + 1 < w2.heap.size := World.block_lt_of_cell? _ _ cw2_1_0
    have cw2_2_0 : w2.cell? ⟨W.heap.size + 1 + 1, 0, none⟩ = some (.int .i64 cx) := cell_gr hw2 (by go_simp)
    have cw2_2_1 : w2.cell? ⟨W.heap.size + 1 + 1, 1, none⟩ = some (.int .i64 cy) := cell_gr hw2 (by go_simp)
    have zw2_2 : W.heap.size + 1 + 1 < w2.heap.size := World.block_lt_of_cell? _ _ cw2_2_0
    have gw2 : Gr W w2 := Gr.trans (by have gg := gw1; have gs := gg.size; go_grown) hw2
    clear hw2 gw1 zw1_0 cw1_0_0 cw1_0_1 zw1_1 cw1_1_0 cw1_1_1 zw1_2 cw1_2_0 cw1_2_1
    go_wp2_with fail
    go_ret
    exact ⟨rfl, by go_grown⟩
  · clear e1 e2 e3
    go_enter Tryd.func53, Tryd.ntmps53
    go_wp2_with fail
    go_at_call 18
    refine ((H1.out _)).mono ?_
    rintro e w1 ⟨rfl, hw1⟩
    have cw1_0_0 : w1.cell? ⟨W.heap.size, 0, none⟩ = some (.int .i64 ax) := cell_gr hw1 (by go_simp)
    have cw1_0_1 : w1.cell? ⟨W.heap.size, 1, none⟩ = some (.int .i64 ay) := cell_gr hw1 (by go_simp)
    have zw1_0 : W.heap.size < w1.heap.size := World.block_lt_of_cell? _ _ cw1_0_0
    have cw1_1_0 : w1.cell? ⟨W.heap.size + 1, 0, none⟩ = some (.int .i64 bx) := cell_gr hw1 (by go_simp)
    have cw1_1_1 : w1.cell? ⟨W.heap.size + 1, 1, none⟩ = some (.int .i64 by') := cell_gr hw1 (by go_simp)
    have zw1_1 : W.heap.size + 1 < w1.heap.size := World.block_lt_of_cell? _ _ cw1_1_0
    have cw1_2_0 : w1.cell? ⟨W.heap.size + 1 + 1, 0, none⟩ = some (.int .i64 cx) := cell_gr hw1 (by go_simp)
    have cw1_2_1 : w1.cell? ⟨W.heap.size + 1 + 1, 1, none⟩ = some (.int .i64 cy) := cell_gr hw1 (by go_simp)
    have zw1_2 : W.heap.size + 1 + 1 < w1.heap.size := World.block_lt_of_cell? _ _ cw1_2_0
    have gw1 : Gr W w1 := Gr.trans (by go_grown) hw1
    clear hw1
    go_wp2_with fail
    go_at_call 18
    refine ((H2.out _)).mono ?_
    rintro e w2 ⟨rfl, hw2⟩
    have cw2_0_0 : w2.cell? ⟨W.heap.size, 0, none⟩ = some (.int .i64 ax) := cell_gr hw2 (by go_simp)
    have cw2_0_1 : w2.cell? ⟨W.heap.size, 1, none⟩ = some (.int .i64 ay) := cell_gr hw2 (by go_simp)
    have zw2_0 : W.heap.size < w2.heap.size := World.block_lt_of_cell? _ _ cw2_0_0
    have cw2_1_0 : w2.cell? ⟨W.heap.size + 1, 0, none⟩ = some (.int .i64 bx) := cell_gr hw2 (by go_simp)
    have cw2_1_1 : w2.cell? ⟨W.heap.size + 1, 1, none⟩ = some (.int .i64 by') := cell_gr hw2 (by go_simp)
    have zw2_1 : W.heap.size + 1 < w2.heap.size := World.block_lt_of_cell? _ _ cw2_1_0
    have cw2_2_0 : w2.cell? ⟨W.heap.size + 1 + 1, 0, none⟩ = some (.int .i64 cx) := cell_gr hw2 (by go_simp)
    have cw2_2_1 : w2.cell? ⟨W.heap.size + 1 + 1, 1, none⟩ = some (.int .i64 cy) := cell_gr hw2 (by go_simp)
    have zw2_2 : W.heap.size + 1 + 1 < w2.heap.size := World.block_lt_of_cell? _ _ cw2_2_0
    have gw2 : Gr W w2 := Gr.trans (by have gg := gw1; have gs := gg.size; go_grown) hw2
    clear hw2 gw1 zw1_0 cw1_0_0 cw1_0_1 zw1_1 cw1_1_0 cw1_1_1 zw1_2 cw1_2_0 cw1_2_1
    go_wp2_with fail
    go_at_call 18
    refine ((H3.out _)).mono ?_
    rintro e w3 ⟨rfl, hw3⟩
    have cw3_0_0 : w3.cell? ⟨W.heap.size, 0, none⟩ = some (.int .i64 ax) := cell_gr hw3 (by go_simp)
    have cw3_0_1 : w3.cell? ⟨W.heap.size, 1, none⟩ = some (.int .i64 ay) := cell_gr hw3 (by go_simp)
    have zw3_0 : W.heap.size < w3.heap.size := World.block_lt_of_cell? _ _ cw3_0_0
    have cw3_1_0 : w3.cell? ⟨W.heap.size + 1, 0, none⟩ = some (.int .i64 bx) := cell_gr hw3 (by go_simp)
    have cw3_1_1 : w3.cell? ⟨W.heap.size + 1, 1, none⟩ = some (.int .i64 by') := cell_gr hw3 (by go_simp)
    have zw3_1 : W.heap.size + 1 < w3.heap.size := World.block_lt_of_cell? _ _ cw3_1_0
    have cw3_2_0 : w3.cell? ⟨W.heap.size + 1 + 1, 0, none⟩ = some (.int .i64 cx) := cell_gr hw3 (by go_simp)
    have cw3_2_1 : w3.cell? ⟨W.heap.size + 1 + 1, 1, none⟩ = some (.int .i64 cy) := cell_gr hw3 (by go_simp)
    have zw3_2 : W.heap.size + 1 + 1 < w3.heap.size := World.block_lt_of_cell? _ _ cw3_2_0
    have gw3 : Gr W w3 := Gr.trans (by have gg := gw2; have gs := gg.size; go_grown) hw3
    clear hw3 gw2 zw2_0 cw2_0_0 cw2_0_1 zw2_1 cw2_1_0 cw2_1_1 zw2_2 cw2_2_0 cw2_2_1
    go_wp2_with fail
    go_ret
    exact ⟨rfl, by go_grown⟩
  · have n1 := nearB_iff.1 e1.symm
    have n2 := nearB_iff.1 e2.symm
    have n3 := nearB_iff.1 e3.symm
    have m1 := mul_near (x := bx - ax) (y := cy - ay) (by omega) (by omega)
    have m2 := mul_near (x := by' - ay) (y := cx - ax) (by omega) (by omega)
    obtain ⟨p1, hp1⟩ : ∃ p, p = (bx - ax) * (cy - ay) := ⟨_, rfl⟩
    obtain ⟨p2, hp2⟩ : ∃ p, p = (by' - ay) * (cx - ax) := ⟨_, rfl⟩
    rw [← hp1] at m1
    rw [← hp2] at m2
    have w1' : wrap64 (bx - ax) = bx - ax := IntWalk.wrap64_in _ (by omega)
    have w2' : wrap64 (cy - ay) = cy - ay := IntWalk.wrap64_in _ (by omega)
    have w3' : wrap64 (by' - ay) = by' - ay := IntWalk.wrap64_in _ (by omega)
    have w4' : wrap64 (cx - ax) = cx - ax := IntWalk.wrap64_in _ (by omega)
    have w5' : wrap64 ((bx - ax) * (cy - ay)) = p1 := by rw [← hp1]; exact IntWalk.wrap64_in _ (by omega)
    have w6' : wrap64 ((by' - ay) * (cx - ax)) = p2 := by rw [← hp2]; exact IntWalk.wrap64_in _ (by omega)
    have w7' : wrap64 (p1 - p2) = p1 - p2 := IntWalk.wrap64_in _ (by omega)
    have f1 : IntKind.i64.wrap (bx - ax) = bx - ax := IntWalk.i64_in _ (by omega)
    have f2 : IntKind.i64.wrap (cy - ay) = cy - ay := IntWalk.i64_in _ (by omega)
    have f3 : IntKind.i64.wrap (by' - ay) = by' - ay := IntWalk.i64_in _ (by omega)
    have f4 : IntKind.i64.wrap (cx - ax) = cx - ax := IntWalk.i64_in _ (by omega)
    have f5 : IntKind.i64.wrap ((bx - ax) * (cy - ay)) = p1 := by rw [← hp1]; exact IntWalk.i64_in _ (by omega)
    have f6 : IntKind.i64.wrap ((by' - ay) * (cx - ax)) = p2 := by rw [← hp2]; exact IntWalk.i64_in _ (by omega)
    have f7 : IntKind.i64.wrap (p1 - p2) = p1 - p2 := IntWalk.i64_in _ (by omega)
    rw [← hp1, ← hp2]
    clear n1 n2 n3 m1 m2 hp1 hp2 e1 e2 e3
    go_enter Tryd.func53, Tryd.ntmps53
    go_wp2_with fail
    go_at_call 18
    refine ((H1.out _)).mono ?_
    rintro e w1 ⟨rfl, hw1⟩
    have cw1_0_0 : w1.cell? ⟨W.heap.size, 0, none⟩ = some (.int .i64 ax) := cell_gr hw1 (by go_simp)
    have cw1_0_1 : w1.cell? ⟨W.heap.size, 1, none⟩ = some (.int .i64 ay) := cell_gr hw1 (by go_simp)
    have zw1_0 : W.heap.size < w1.heap.size := World.block_lt_of_cell? _ _ cw1_0_0
    have cw1_1_0 : w1.cell? ⟨W.heap.size + 1, 0, none⟩ = some (.int .i64 bx) := cell_gr hw1 (by go_simp)
    have cw1_1_1 : w1.cell? ⟨W.heap.size + 1, 1, none⟩ = some (.int .i64 by') := cell_gr hw1 (by go_simp)
    have zw1_1 : W.heap.size + 1 < w1.heap.size := World.block_lt_of_cell? _ _ cw1_1_0
    have cw1_2_0 : w1.cell? ⟨W.heap.size + 1 + 1, 0, none⟩ = some (.int .i64 cx) := cell_gr hw1 (by go_simp)
    have cw1_2_1 : w1.cell? ⟨W.heap.size + 1 + 1, 1, none⟩ = some (.int .i64 cy) := cell_gr hw1 (by go_simp)
    have zw1_2 : W.heap.size + 1 + 1 < w1.heap.size := World.block_lt_of_cell? _ _ cw1_2_0
    have gw1 : Gr W w1 := Gr.trans (by go_grown) hw1
    clear hw1
    go_wp2_with fail
    go_at_call 18
    refine ((H2.out _)).mono ?_
    rintro e w2 ⟨rfl, hw2⟩
    have cw2_0_0 : w2.cell? ⟨W.heap.size, 0, none⟩ = some (.int .i64 ax) := cell_gr hw2 (by go_simp)
    have cw2_0_1 : w2.cell? ⟨W.heap.size, 1, none⟩ = some (.int .i64 ay) := cell_gr hw2 (by go_simp)
    have zw2_0 : W.heap.size < w2.heap.size := World.block_lt_of_cell? _ _ cw2_0_0
    have cw2_1_0 : w2.cell? ⟨W.heap.size + 1, 0, none⟩ = some (.int .i64 bx) := cell_gr hw2 (by go_simp)
    have cw2_1_1 : w2.cell? ⟨W.heap.size + 1, 1, none⟩ = some (.int .i64 by') := cell_gr hw2 (by go_simp)
    have zw2_1 : W.heap.size + 1 < w2.heap.size := World.block_lt_of_cell? _ _ cw2_1_0
    have cw2_2_0 : w2.cell? ⟨W.heap.size + 1 + 1, 0, none⟩ = some (.int .i64 cx) := cell_gr hw2 (by go_simp)
    have cw2_2_1 : w2.cell? ⟨W.heap.size + 1 + 1, 1, none⟩ = some (.int .i64 cy) := cell_gr hw2 (by go_simp)
    have zw2_2 : W.heap.size + 1 + 1 < w2.heap.size := World.block_lt_of_cell? _ _ cw2_2_0
    have gw2 : Gr W w2 := Gr.trans (by have gg := gw1; have gs := gg.size; go_grown) hw2
    clear hw2 gw1 zw1_0 cw1_0_0 cw1_0_1 zw1_1 cw1_1_0 cw1_1_1 zw1_2 cw1_2_0 cw1_2_1
    go_wp2_with fail
    go_at_call 18
    refine ((H3.out _)).mono ?_
    rintro e w3 ⟨rfl, hw3⟩
    have cw3_0_0 : w3.cell? ⟨W.heap.size, 0, none⟩ = some (.int .i64 ax) := cell_gr hw3 (by go_simp)
    have cw3_0_1 : w3.cell? ⟨W.heap.size, 1, none⟩ = some (.int .i64 ay) := cell_gr hw3 (by go_simp)
    have zw3_0 : W.heap.size < w3.heap.size := World.block_lt_of_cell? _ _ cw3_0_0
    have cw3_1_0 : w3.cell? ⟨W.heap.size + 1, 0, none⟩ = some (.int .i64 bx) := cell_gr hw3 (by go_simp)
    have cw3_1_1 : w3.cell? ⟨W.heap.size + 1, 1, none⟩ = some (.int .i64 by') := cell_gr hw3 (by go_simp)
    have zw3_1 : W.heap.size + 1 < w3.heap.size := World.block_lt_of_cell? _ _ cw3_1_0
    have cw3_2_0 : w3.cell? ⟨W.heap.size + 1 + 1, 0, none⟩ = some (.int .i64 cx) := cell_gr hw3 (by go_simp)
    have cw3_2_1 : w3.cell? ⟨W.heap.size + 1 + 1, 1, none⟩ = some (.int .i64 cy) := cell_gr hw3 (by go_simp)
    have zw3_2 : W.heap.size + 1 + 1 < w3.heap.size := World.block_lt_of_cell? _ _ cw3_2_0
    have gw3 : Gr W w3 := Gr.trans (by have gg := gw2; have gs := gg.size; go_grown) hw3
    clear hw3 gw2 zw2_0 cw2_0_0 cw2_0_1 zw2_1 cw2_1_0 cw2_1_1 zw2_2 cw2_2_0 cw2_2_1
    go_wp2_with fail
    go_ret
    exact ⟨rfl, by go_grown⟩
set_option maxRecDepth 100000 in
theorem c_rOrient (ax ay bx by' cx cy : Int) (W : World) :
    Calls Tryd.prog 68 #[.agg #[.int .i64 ax, .int .i64 ay], .agg #[.int .i64 bx, .int .i64 by'], .agg #[.int .i64 cx, .int .i64 cy]] W fun e w' => e = .returned (.int .i64 (cmpZ (crossZ ax ay bx by' cx cy) 0)) ∧ Gr W w' := by
  have A := c_rCross ax ay bx by' cx cy
  generalize crossZ ax ay bx by' cx cy = x at *
  have H1 := Lib.hid A
  clear A
  rcases Int.lt_trichotomy x 0 with h | h | h
  · rw [cmpZ_lt h]
    have h2 : ¬ 0 < x := by omega
    go_enter Tryd.func68, Tryd.ntmps68
    go_wp2_with fail
    go_at_call 53
    refine ((H1.out _)).mono ?_
    rintro e w1 ⟨rfl, hw1⟩
    have cw1_0_0 : w1.cell? ⟨W.heap.size, 0, none⟩ = some (.int .i64 ax) := cell_gr hw1 (by go_simp)
    have cw1_0_1 : w1.cell? ⟨W.heap.size, 1, none⟩ = some (.int .i64 ay) := cell_gr hw1 (by go_simp)
    have zw1_0 : W.heap.size < w1.heap.size := World.block_lt_of_cell? _ _ cw1_0_0
    have cw1_1_0 : w1.cell? ⟨W.heap.size + 1, 0, none⟩ = some (.int .i64 bx) := cell_gr hw1 (by go_simp)
    have cw1_1_1 : w1.cell? ⟨W.heap.size + 1, 1, none⟩ = some (.int .i64 by') := cell_gr hw1 (by go_simp)
    have zw1_1 : W.heap.size + 1 < w1.heap.size := World.block_lt_of_cell? _ _ cw1_1_0
    have cw1_2_0 : w1.cell? ⟨W.heap.size + 1 + 1, 0, none⟩ = some (.int .i64 cx) := cell_gr hw1 (by go_simp)
    have cw1_2_1 : w1.cell? ⟨W.heap.size + 1 + 1, 1, none⟩ = some (.int .i64 cy) := cell_gr hw1 (by go_simp)
    have zw1_2 : W.heap.size + 1 + 1 < w1.heap.size := World.block_lt_of_cell? _ _ cw1_2_0
    have gw1 : Gr W w1 := Gr.trans (by go_grown) hw1
    clear hw1
    go_wp2_with fail
    go_ret
    exact ⟨rfl, by go_grown⟩
  · subst h
    rw [cmpZ_eq]
    go_enter Tryd.func68, Tryd.ntmps68
    go_wp2_with fail
    go_at_call 53
    refine ((H1.out _)).mono ?_
    rintro e w1 ⟨rfl, hw1⟩
    have cw1_0_0 : w1.cell? ⟨W.heap.size, 0, none⟩ = some (.int .i64 ax) := cell_gr hw1 (by go_simp)
    have cw1_0_1 : w1.cell? ⟨W.heap.size, 1, none⟩ = some (.int .i64 ay) := cell_gr hw1 (by go_simp)
    have zw1_0 : W.heap.size < w1.heap.size := World.block_lt_of_cell? _ _ cw1_0_0
    have cw1_1_0 : w1.cell? ⟨W.heap.size + 1, 0, none⟩ = some (.int .i64 bx) := cell_gr hw1 (by go_simp)
    have cw1_1_1 : w1.cell? ⟨W.heap.size + 1, 1, none⟩ = some (.int .i64 by') := cell_gr hw1 (by go_simp)
    have zw1_1 : W.heap.size + 1 < w1.heap.size := World.block_lt_of_cell? _ _ cw1_1_0
    have cw1_2_0 : w1.cell? ⟨W.heap.size + 1 + 1, 0, none⟩ = some (.int .i64 cx) := cell_gr hw1 (by go_simp)
    have cw1_2_1 : w1.cell? ⟨W.heap.size + 1 + 1, 1, none⟩ = some (.int .i64 cy) := cell_gr hw1 (by go_simp)
    have zw1_2 : W.heap.size + 1 + 1 < w1.heap.size := World.block_lt_of_cell? _ _ cw1_2_0
    have gw1 : Gr W w1 := Gr.trans (by go_grown) hw1
    clear hw1
    go_wp2_with fail
    go_ret
    exact ⟨rfl, by go_grown⟩
  · rw [cmpZ_gt h]
    go_enter Tryd.func68, Tryd.ntmps68
    go_wp2_with fail
    go_at_call 53
    refine ((H1.out _)).mono ?_
    rintro e w1 ⟨rfl, hw1⟩
    have cw1_0_0 : w1.cell? ⟨W.heap.size, 0, none⟩ = some (.int .i64 ax) := cell_gr hw1 (by go_simp)
    have cw1_0_1 : w1.cell? ⟨W.heap.size, 1, none⟩ = some (.int .i64 ay) := cell_gr hw1 (by go_simp)
    have zw1_0 : W.heap.size < w1.heap.size := World.block_lt_of_cell? _ _ cw1_0_0
    have cw1_1_0 : w1.cell? ⟨W.heap.size + 1, 0, none⟩ = some (.int .i64 bx) := cell_gr hw1 (by go_simp)
    have cw1_1_1 : w1.cell? ⟨W.heap.size + 1, 1, none⟩ = some (.int .i64 by') := cell_gr hw1 (by go_simp)
    have zw1_1 : W.heap.size + 1 < w1.heap.size := World.block_lt_of_cell? _ _ cw1_1_0
    have cw1_2_0 : w1.cell? ⟨W.heap.size + 1 + 1, 0, none⟩ = some (.int .i64 cx) := cell_gr hw1 (by go_simp)
    have cw1_2_1 : w1.cell? ⟨W.heap.size + 1 + 1, 1, none⟩ = some (.int .i64 cy) := cell_gr hw1 (by go_simp)
    have zw1_2 : W.heap.size + 1 + 1 < w1.heap.size := World.block_lt_of_cell? _ _ cw1_2_0
    have gw1 : Gr W w1 := Gr.trans (by go_grown) hw1
    clear hw1
    go_wp2_with fail
    go_ret
    exact ⟨rfl, by go_grown⟩
end Go.Proofs.YtfobmlgpjhghdaaDoor
namespace Go.Proofs.YtfobmlgpjhghdaaDoor
set_option linter.unusedVariables false
open Go.ChangeShapes Go.WideShapes Go.ChangeAt Go.RowKit
end Go.Proofs.YtfobmlgpjhghdaaDoor
namespace Go.Proofs.YtfobmlgpjhghdaaDoor
set_option linter.unusedVariables false
open Go.ChangeShapes Go.WideShapes Go.ChangeAt Go.RowKit
theorem run_min (x y : Int) (w : World) : (Builtin.min_ #[3, 3] 3 #[.int .i64 x, .int .i64 y]).run Tryd.prog w = .ok (.int .i64 (minZ x y)) w := by simp [Builtin.min_, Builtin.min2, go_sem, minZ]
theorem run_maxZ (x y : Int) (w : World) : (Builtin.max_ #[3, 3] 3 #[.int .i64 x, .int .i64 y]).run Tryd.prog w = .ok (.int .i64 (maxZ x y)) w := by simp [Builtin.max_, Builtin.max2, go_sem, maxZ]
theorem c_gMayBe (n : Nat) (X Y : Nat → Int) (b : Nat) (w : World) (hn : n ≤ 100) (hb : b < w.heap.size)
    (hc : ∀ k, k < n → w.cell? ⟨b, k * 2, none⟩ = some (.int .i64 (X k)) ∧ w.cell? ⟨b, k * 2 + 1, none⟩ = some (.int .i64 (Y k))) :
    Calls Tryd.prog 73 #[.slice (some ⟨b, 0, none⟩) n n] w fun e w' => e = .returned (.bool (allB X Y n)) ∧ Gr w w' := by
  go_enter Tryd.func73, Tryd.ntmps73
  go_wp2_with fail
  go_loopg [7] n (fun k v wr => ∃ i : Nat, i ≤ n ∧ k = n - i ∧ v = .int .i64 i ∧ allB X Y i = true ∧ Gr w wr)
  case atStart => exact ⟨0, by omega, by omega, rfl, rfl, Gr.of_eq rfl⟩
  case round =>
    obtain ⟨i, hi, hk, rfl, hall, hg⟩ := hrel
    by_cases h : i < n
    · have ti : decide ((i : Int) < (n : Int)) = true := decide_eq_true (by omega)
      have ti2 : decide (i < n) = true := decide_eq_true h
      have c0 := cell_gr hg (hc i h).1
      have c1 := cell_gr hg (hc i h).2
      obtain ⟨q, hq⟩ : ∃ q, q = nearB (X i) (Y i) := ⟨_, rfl⟩
      have hC := c_CheckPoint (X i) (Y i)
      rw [← hq] at hC
      cases q
      · have e : allB X Y n = false := by
          rw [← Bool.not_eq_true, allB_iff]
          intro H
          rw [H i h] at hq
          cases hq
        have HE := Lib.hid e
        rw [if_neg (by simp)] at hC
        have hN := Lib.hid hC
        clear hall e hq hc hC
        go_wp2_with (go_at_call 46; (with_reducible refine (hN.out _).mono ?_); rintro e w' ⟨rfl, hg1⟩)
        go_ret
        exact ⟨by rw [HE.out]; rfl, Gr.trans (Gr.trans hg (by go_grown)) hg1⟩
      · have e : allB X Y (i + 1) = true := by simp only [allB, hall, ← hq]; rfl
        have HE := Lib.hid e
        rw [if_pos rfl] at hC
        have hN := Lib.hid hC
        clear hall e hq hc hC
        go_wp2_with (go_at_call 46; (with_reducible refine (hN.out _).mono ?_); rintro e w' ⟨rfl, hg1⟩)
        go_roundg (n - (i + 1))
        case measure => omega
        case rel => exact ⟨i + 1, by omega, rfl, by go_num, HE.out, Gr.trans (Gr.trans hg (by go_grown)) hg1⟩
    · have e : i = n := by omega
      subst e
      go_wp2_with fail
      go_ret
      exact ⟨by simp [hall], hg⟩
theorem c_gMayBe2 (ax ay bx by' : Int) (q : Bool) (hq : q = (nearB ax ay && nearB bx by')) (b : Nat) (w : World) (hb : b < w.heap.size)
    (k0 : w.cell? ⟨b, 0, none⟩ = some (.int .i64 ax)) (k1 : w.cell? ⟨b, 1, none⟩ = some (.int .i64 ay)) (k2 : w.cell? ⟨b, 2, none⟩ = some (.int .i64 bx)) (k3 : w.cell? ⟨b, 3, none⟩ = some (.int .i64 by')) :
    Calls Tryd.prog 73 #[.slice (some ⟨b, 0, none⟩) 2 2] w fun e w' => e = .returned (.bool q) ∧ Gr w w' := by
  have h := c_gMayBe 2 (fun k => [ax, bx].getD k 0) (fun k => [ay, by'].getD k 0) b w (by omega) hb (fun k hk => by
    rcases (by omega : k = 0 ∨ k = 1) with rfl | rfl
    · exact ⟨k0, k1⟩
    · exact ⟨k2, k3⟩)
  have e : allB (fun k => [ax, bx].getD k 0) (fun k => [ay, by'].getD k 0) 2 = q := by simp [allB, hq]
  rw [e] at h
  exact h
theorem c_gMayBe3 (ax ay bx by' cx cy : Int) (q : Bool) (hq : q = (nearB ax ay && nearB bx by' && nearB cx cy)) (b : Nat) (w : World) (hb : b < w.heap.size)
    (k0 : w.cell? ⟨b, 0, none⟩ = some (.int .i64 ax)) (k1 : w.cell? ⟨b, 1, none⟩ = some (.int .i64 ay)) (k2 : w.cell? ⟨b, 2, none⟩ = some (.int .i64 bx)) (k3 : w.cell? ⟨b, 3, none⟩ = some (.int .i64 by'))
    (k4 : w.cell? ⟨b, 4, none⟩ = some (.int .i64 cx)) (k5 : w.cell? ⟨b, 5, none⟩ = some (.int .i64 cy)) :
    Calls Tryd.prog 73 #[.slice (some ⟨b, 0, none⟩) 3 3] w fun e w' => e = .returned (.bool q) ∧ Gr w w' := by
  have h := c_gMayBe 3 (fun k => [ax, bx, cx].getD k 0) (fun k => [ay, by', cy].getD k 0) b w (by omega) hb (fun k hk => by
    rcases (by omega : k = 0 ∨ k = 1 ∨ k = 2) with rfl | rfl | rfl
    · exact ⟨k0, k1⟩
    · exact ⟨k2, k3⟩
    · exact ⟨k4, k5⟩)
  have e : allB (fun k => [ax, bx, cx].getD k 0) (fun k => [ay, by', cy].getD k 0) 3 = q := by simp [allB, hq]
  rw [e] at h
  exact h
theorem c_gMayBe4 (ax ay bx by' cx cy dx dy : Int) (q : Bool) (hq : q = (nearB ax ay && nearB bx by' && nearB cx cy && nearB dx dy)) (b : Nat) (w : World) (hb : b < w.heap.size)
    (k0 : w.cell? ⟨b, 0, none⟩ = some (.int .i64 ax)) (k1 : w.cell? ⟨b, 1, none⟩ = some (.int .i64 ay)) (k2 : w.cell? ⟨b, 2, none⟩ = some (.int .i64 bx)) (k3 : w.cell? ⟨b, 3, none⟩ = some (.int .i64 by'))
    (k4 : w.cell? ⟨b, 4, none⟩ = some (.int .i64 cx)) (k5 : w.cell? ⟨b, 5, none⟩ = some (.int .i64 cy)) (k6 : w.cell? ⟨b, 6, none⟩ = some (.int .i64 dx)) (k7 : w.cell? ⟨b, 7, none⟩ = some (.int .i64 dy)) :
    Calls Tryd.prog 73 #[.slice (some ⟨b, 0, none⟩) 4 4] w fun e w' => e = .returned (.bool q) ∧ Gr w w' := by
  have h := c_gMayBe 4 (fun k => [ax, bx, cx, dx].getD k 0) (fun k => [ay, by', cy, dy].getD k 0) b w (by omega) hb (fun k hk => by
    rcases (by omega : k = 0 ∨ k = 1 ∨ k = 2 ∨ k = 3) with rfl | rfl | rfl | rfl
    · exact ⟨k0, k1⟩
    · exact ⟨k2, k3⟩
    · exact ⟨k4, k5⟩
    · exact ⟨k6, k7⟩)
  have e : allB (fun k => [ax, bx, cx, dx].getD k 0) (fun k => [ay, by', cy, dy].getD k 0) 4 = q := by simp [allB, hq]
  rw [e] at h
  exact h
def onC (ax ay bx by' px py : Int) : Bool := btw ax ay bx by' px py && (cmpZ (crossZ ax ay bx by' px py) 0 == 0)
set_option maxHeartbeats 1000000 in
set_option maxRecDepth 100000 in
theorem on_core (ax ay bx by' px py m1 m2 m3 m4 k : Int) (r : Bool) (W : World)
    (M1 : ∀ w, (Builtin.min_ #[3, 3] 3 #[.int .i64 ax, .int .i64 bx]).run Tryd.prog w = .ok (.int .i64 m1) w)
    (M2 : ∀ w, (Builtin.max_ #[3, 3] 3 #[.int .i64 ax, .int .i64 bx]).run Tryd.prog w = .ok (.int .i64 m2) w)
    (M3 : ∀ w, (Builtin.min_ #[3, 3] 3 #[.int .i64 ay, .int .i64 by']).run Tryd.prog w = .ok (.int .i64 m3) w)
    (M4 : ∀ w, (Builtin.max_ #[3, 3] 3 #[.int .i64 ay, .int .i64 by']).run Tryd.prog w = .ok (.int .i64 m4) w)
    (A1 : ∀ w, Calls Tryd.prog 80 #[.agg #[.int .i64 ax, .int .i64 ay], .agg #[.int .i64 bx, .int .i64 by'], .agg #[.int .i64 px, .int .i64 py]] w fun e w' => e = .returned (.int .i64 k) ∧ Gr w w')
    (hc : (¬ m1 ≤ px ∧ r = false) ∨ (m1 ≤ px ∧ ¬ px ≤ m2 ∧ r = false) ∨ (m1 ≤ px ∧ px ≤ m2 ∧ ¬ m3 ≤ py ∧ r = false) ∨ (m1 ≤ px ∧ px ≤ m2 ∧ m3 ≤ py ∧ ¬ py ≤ m4 ∧ r = false) ∨ (m1 ≤ px ∧ px ≤ m2 ∧ m3 ≤ py ∧ py ≤ m4 ∧ (k == 0) = r)) :
    Calls Tryd.prog 79 #[.agg #[.int .i64 ax, .int .i64 ay], .agg #[.int .i64 bx, .int .i64 by'], .agg #[.int .i64 px, .int .i64 py]] W fun e w' => e = .returned (.bool r) ∧ Gr W w' := by
  have H1 := Lib.hid A1
  clear A1
  rcases hc with ⟨a1, rfl⟩ | ⟨a1, a2, rfl⟩ | ⟨a1, a2, a3, rfl⟩ | ⟨a1, a2, a3, a4, rfl⟩ | ⟨a1, a2, a3, a4, a5⟩
  iterate 4
    · go_enter Tryd.func79, Tryd.ntmps79
      go_wp2_with fail
      go_ret
      exact ⟨rfl, by go_grown⟩
  · go_enter Tryd.func79, Tryd.ntmps79
    go_wp2_with fail
    go_at_call 80
    refine ((H1.out _)).mono ?_
    rintro e w1 ⟨rfl, hw1⟩
    have cw1_0_0 : w1.cell? ⟨W.heap.size, 0, none⟩ = some (.int .i64 ax) := cell_gr hw1 (by go_simp)
    have cw1_0_1 : w1.cell? ⟨W.heap.size, 1, none⟩ = some (.int .i64 ay) := cell_gr hw1 (by go_simp)
    have zw1_0 : W.heap.size < w1.heap.size := World.block_lt_of_cell? _ _ cw1_0_0
    have cw1_1_0 : w1.cell? ⟨W.heap.size + 1, 0, none⟩ = some (.int .i64 bx) := cell_gr hw1 (by go_simp)
    have cw1_1_1 : w1.cell? ⟨W.heap.size + 1, 1, none⟩ = some (.int .i64 by') := cell_gr hw1 (by go_simp)
    have zw1_1 : W.heap.size + 1 < w1.heap.size := World.block_lt_of_cell? _ _ cw1_1_0
    have cw1_2_0 : w1.cell? ⟨W.heap.size + 1 + 1, 0, none⟩ = some (.int .i64 px) := cell_gr hw1 (by go_simp)
    have cw1_2_1 : w1.cell? ⟨W.heap.size + 1 + 1, 1, none⟩ = some (.int .i64 py) := cell_gr hw1 (by go_simp)
    have zw1_2 : W.heap.size + 1 + 1 < w1.heap.size := World.block_lt_of_cell? _ _ cw1_2_0
    have gw1 : Gr W w1 := Gr.trans (by go_grown) hw1
    clear hw1
    go_wp2_with fail
    go_ret
    exact ⟨rfl, by go_grown⟩
theorem c_gon (ax ay bx by' px py : Int) (W : World) : Calls Tryd.prog 79 #[.agg #[.int .i64 ax, .int .i64 ay], .agg #[.int .i64 bx, .int .i64 by'], .agg #[.int .i64 px, .int .i64 py]] W fun e w' => e = .returned (.bool (onC ax ay bx by' px py)) ∧ Gr W w' := by
  refine on_core ax ay bx by' px py _ _ _ _ _ _ W (run_min _ _) (run_maxZ _ _) (run_min _ _) (run_maxZ _ _) (c_Orient ax ay bx by' px py) ?_
  unfold onC btw
  generalize minZ ax bx = m1
  generalize maxZ ax bx = m2
  generalize minZ ay by' = m3
  generalize maxZ ay by' = m4
  by_cases a1 : m1 ≤ px <;> by_cases a2 : px ≤ m2 <;> by_cases a3 : m3 ≤ py <;> by_cases a4 : py ≤ m4 <;> simp [a1, a2, a3, a4]
def orZ (ax ay bx by' cx cy : Int) : Int := cmpZ (crossZ ax ay bx by' cx cy) 0
theorem orZ_cases (ax ay bx by' cx cy : Int) : orZ ax ay bx by' cx cy = -1 ∨ orZ ax ay bx by' cx cy = 0 ∨ orZ ax ay bx by' cx cy = 1 := by
  unfold orZ cmpZ; split <;> (try split) <;> simp
theorem mul3 {a b : Int} (ha : a = -1 ∨ a = 0 ∨ a = 1) (hb : b = -1 ∨ b = 0 ∨ b = 1) : a * b = 1 ∨ a * b = -1 ∨ a * b = 0 := by
  rcases ha with rfl | rfl | rfl <;> rcases hb with rfl | rfl | rfl <;> simp
set_option maxHeartbeats 1000000 in
set_option maxRecDepth 100000 in
theorem sides_core (ax ay bx by' cx cy dx dy k1 k2 p r : Int) (W : World) (e1 : wrap64 (k1 * k2) = p) (e2 : IntKind.i64.wrap (k1 * k2) = p) (hp : (p = 1 ∧ r = 0) ∨ (p = -1 ∧ r = 1) ∨ (p = 0 ∧ r = 2))
    (A1 : ∀ w, Calls Tryd.prog 80 #[.agg #[.int .i64 ax, .int .i64 ay], .agg #[.int .i64 bx, .int .i64 by'], .agg #[.int .i64 cx, .int .i64 cy]] w fun e w' => e = .returned (.int .i64 k1) ∧ Gr w w')
    (A2 : ∀ w, Calls Tryd.prog 80 #[.agg #[.int .i64 ax, .int .i64 ay], .agg #[.int .i64 bx, .int .i64 by'], .agg #[.int .i64 dx, .int .i64 dy]] w fun e w' => e = .returned (.int .i64 k2) ∧ Gr w w') :
    Calls Tryd.prog 78 #[.agg #[.int .i64 ax, .int .i64 ay], .agg #[.int .i64 bx, .int .i64 by'], .agg #[.int .i64 cx, .int .i64 cy], .agg #[.int .i64 dx, .int .i64 dy]] W fun e w' => e = .returned (.int .i64 r) ∧ Gr W w' := by
  have H1 := Lib.hid A1
  have H2 := Lib.hid A2
  clear A1 A2
  rcases hp with ⟨rfl, rfl⟩ | ⟨rfl, rfl⟩ | ⟨rfl, rfl⟩
  all_goals
    go_enter Tryd.func78, Tryd.ntmps78
    go_wp2_with fail
    generalize hhw0 : ((((W.alloc (.cells #[.int .i64 ax, .int .i64 ay] 26)).alloc (.cells #[.int .i64 bx, .int .i64 by'] 26)).alloc (.cells #[.int .i64 cx, .int .i64 cy] 26)).alloc (.cells #[.int .i64 dx, .int .i64 dy] 26)) = w0
    have cw0_0_0 : w0.cell? ⟨W.heap.size, 0, none⟩ = some (.int .i64 ax) := by subst hhw0; go_simp
    have cw0_0_1 : w0.cell? ⟨W.heap.size, 1, none⟩ = some (.int .i64 ay) := by subst hhw0; go_simp
    have zw0_0 : W.heap.size < w0.heap.size := World.block_lt_of_cell? _ _ cw0_0_0
    have cw0_1_0 : w0.cell? ⟨W.heap.size + 1, 0, none⟩ = some (.int .i64 bx) := by subst hhw0; go_simp
    have cw0_1_1 : w0.cell? ⟨W.heap.size + 1, 1, none⟩ = some (.int .i64 by') := by subst hhw0; go_simp
    have zw0_1 : W.heap.size + 1 < w0.heap.size := World.block_lt_of_cell? _ _ cw0_1_0
    have cw0_2_0 : w0.cell? ⟨W.heap.size + 1 + 1, 0, none⟩ = some (.int .i64 cx) := by subst hhw0; go_simp
    have cw0_2_1 : w0.cell? ⟨W.heap.size + 1 + 1, 1, none⟩ = some (.int .i64 cy) := by subst hhw0; go_simp
    have zw0_2 : W.heap.size + 1 + 1 < w0.heap.size := World.block_lt_of_cell? _ _ cw0_2_0
    have cw0_3_0 : w0.cell? ⟨W.heap.size + 1 + 1 + 1, 0, none⟩ = some (.int .i64 dx) := by subst hhw0; go_simp
    have cw0_3_1 : w0.cell? ⟨W.heap.size + 1 + 1 + 1, 1, none⟩ = some (.int .i64 dy) := by subst hhw0; go_simp
    have zw0_3 : W.heap.size + 1 + 1 + 1 < w0.heap.size := World.block_lt_of_cell? _ _ cw0_3_0
    have gw0 : Gr W w0 := by subst hhw0; go_grown
    clear hhw0
    refine wp_region_spread (by kernel_rfl) (by kernel_rfl) ?_
    try simp only [List.append]
    repeat (first | go_big_quiet_skip | (go_big_quiet_want; go_big_quiet_op; (first | go_big_quiet_on | (apply Exists.intro; refine ⟨fun _ => ?_, ?_⟩; (· (first | (go_at_call 80; first | ((with_reducible refine ((H1.out _)).mono ?_); rintro e w' ⟨rfl, hg⟩; exact ⟨rfl, spread_gr hg⟩) | ((with_reducible refine ((H2.out _)).mono ?_); rintro e w' ⟨rfl, hg⟩; exact ⟨rfl, spread_gr hg⟩)))); go_big_quiet_on))))
    refine wpQuiet_nil ?_
    intro wr hr
    obtain ⟨mr, rfl⟩ := hr
    go_wp2_with fail
    go_ret
    exact ⟨rfl, Gr.trans (by have gg := gw0; have gs := gg.size; go_grown) (gr_spread _ _)⟩
theorem c_sides (ax ay bx by' cx cy dx dy : Int) (W : World) : Calls Tryd.prog 78 #[.agg #[.int .i64 ax, .int .i64 ay], .agg #[.int .i64 bx, .int .i64 by'], .agg #[.int .i64 cx, .int .i64 cy], .agg #[.int .i64 dx, .int .i64 dy]] W fun e w' => e = .returned (.int .i64 (sdZ (orZ ax ay bx by' cx cy * orZ ax ay bx by' dx dy))) ∧ Gr W w' := by
  have h := mul3 (orZ_cases ax ay bx by' cx cy) (orZ_cases ax ay bx by' dx dy)
  refine sides_core ax ay bx by' cx cy dx dy _ _ _ _ W (IntWalk.wrap64_in _ (by unfold orZ at h; omega)) (IntWalk.i64_in _ (by unfold orZ at h; omega)) ?_ (c_Orient ax ay bx by' cx cy) (c_Orient ax ay bx by' dx dy)
  unfold orZ sdZ at *
  rcases h with h | h | h <;> rw [h] <;> simp
set_option maxHeartbeats 1000000 in
set_option maxRecDepth 100000 in
theorem apart_core (ax ay bx by' cx cy dx dy m1 m2 m3 m4 n1 n2 n3 n4 : Int) (r : Bool) (W : World)
    (M1 : ∀ w, (Builtin.max_ #[3, 3] 3 #[.int .i64 ax, .int .i64 bx]).run Tryd.prog w = .ok (.int .i64 m1) w)
    (M2 : ∀ w, (Builtin.min_ #[3, 3] 3 #[.int .i64 cx, .int .i64 dx]).run Tryd.prog w = .ok (.int .i64 m2) w)
    (M3 : ∀ w, (Builtin.max_ #[3, 3] 3 #[.int .i64 cx, .int .i64 dx]).run Tryd.prog w = .ok (.int .i64 m3) w)
    (M4 : ∀ w, (Builtin.min_ #[3, 3] 3 #[.int .i64 ax, .int .i64 bx]).run Tryd.prog w = .ok (.int .i64 m4) w)
    (N1 : ∀ w, (Builtin.max_ #[3, 3] 3 #[.int .i64 ay, .int .i64 by']).run Tryd.prog w = .ok (.int .i64 n1) w)
    (N2 : ∀ w, (Builtin.min_ #[3, 3] 3 #[.int .i64 cy, .int .i64 dy]).run Tryd.prog w = .ok (.int .i64 n2) w)
    (N3 : ∀ w, (Builtin.max_ #[3, 3] 3 #[.int .i64 cy, .int .i64 dy]).run Tryd.prog w = .ok (.int .i64 n3) w)
    (N4 : ∀ w, (Builtin.min_ #[3, 3] 3 #[.int .i64 ay, .int .i64 by']).run Tryd.prog w = .ok (.int .i64 n4) w)
    (hc : (m1 < m2 ∧ r = true) ∨ (¬ m1 < m2 ∧ m3 < m4 ∧ r = true) ∨ (¬ m1 < m2 ∧ ¬ m3 < m4 ∧ n1 < n2 ∧ r = true) ∨ (¬ m1 < m2 ∧ ¬ m3 < m4 ∧ ¬ n1 < n2 ∧ n3 < n4 ∧ r = true) ∨ (¬ m1 < m2 ∧ ¬ m3 < m4 ∧ ¬ n1 < n2 ∧ ¬ n3 < n4 ∧ r = false)) :
    Calls Tryd.prog 77 #[.agg #[.int .i64 ax, .int .i64 ay], .agg #[.int .i64 bx, .int .i64 by'], .agg #[.int .i64 cx, .int .i64 cy], .agg #[.int .i64 dx, .int .i64 dy]] W fun e w' => e = .returned (.bool r) ∧ Gr W w' := by
  rcases hc with ⟨a1, rfl⟩ | ⟨a1, a2, rfl⟩ | ⟨a1, a2, a3, rfl⟩ | ⟨a1, a2, a3, a4, rfl⟩ | ⟨a1, a2, a3, a4, rfl⟩
  all_goals
    go_enter Tryd.func77, Tryd.ntmps77
    go_wp2_with fail
    go_ret
    exact ⟨by first | rfl | simp [a4], by go_grown⟩
theorem c_apart (ax ay bx by' cx cy dx dy : Int) (W : World) : Calls Tryd.prog 77 #[.agg #[.int .i64 ax, .int .i64 ay], .agg #[.int .i64 bx, .int .i64 by'], .agg #[.int .i64 cx, .int .i64 cy], .agg #[.int .i64 dx, .int .i64 dy]] W fun e w' => e = .returned (.bool (apF ax ay bx by' cx cy dx dy)) ∧ Gr W w' := by
  refine apart_core ax ay bx by' cx cy dx dy _ _ _ _ _ _ _ _ _ W (run_maxZ _ _) (run_min _ _) (run_maxZ _ _) (run_min _ _) (run_maxZ _ _) (run_min _ _) (run_maxZ _ _) (run_min _ _) ?_
  unfold apF
  generalize maxZ ax bx = m1
  generalize minZ cx dx = m2
  generalize maxZ cx dx = m3
  generalize minZ ax bx = m4
  generalize maxZ ay by' = n1
  generalize minZ cy dy = n2
  generalize maxZ cy dy = n3
  generalize minZ ay by' = n4
  by_cases a1 : m1 < m2 <;> by_cases a2 : m3 < m4 <;> by_cases a3 : n1 < n2 <;> by_cases a4 : n3 < n4 <;> simp [a1, a2, a3, a4]
def onG (ax ay bx by' px py : Int) : Bool := (nearB ax ay && nearB bx by' && nearB px py) && onF ax ay bx by' px py
theorem onC_eq {ax ay bx by' px py : Int} (h : (nearB ax ay && nearB bx by' && nearB px py) = true) : onC ax ay bx by' px py = onF ax ay bx by' px py := by
  unfold onC onF sg cr crossZ
  rw [if_pos h]
set_option maxHeartbeats 1000000 in
set_option maxRecDepth 100000 in
theorem gOn_core (ax ay bx by' px py : Int) (q o r : Bool) (W : World) (hc : (q = false ∧ r = false) ∨ (q = true ∧ r = o))
    (A1 : ∀ b w, b < w.heap.size → w.cell? ⟨b, 0, none⟩ = some (.int .i64 ax) → w.cell? ⟨b, 1, none⟩ = some (.int .i64 ay) → w.cell? ⟨b, 2, none⟩ = some (.int .i64 bx) → w.cell? ⟨b, 3, none⟩ = some (.int .i64 by') → w.cell? ⟨b, 4, none⟩ = some (.int .i64 px) → w.cell? ⟨b, 5, none⟩ = some (.int .i64 py) →
      Calls Tryd.prog 73 #[.slice (some ⟨b, 0, none⟩) 3 3] w fun e w' => e = .returned (.bool q) ∧ Gr w w')
    (A2 : ∀ w, Calls Tryd.prog 79 #[.agg #[.int .i64 ax, .int .i64 ay], .agg #[.int .i64 bx, .int .i64 by'], .agg #[.int .i64 px, .int .i64 py]] w fun e w' => e = .returned (.bool o) ∧ Gr w w') :
    Calls Tryd.prog 75 #[.agg #[.int .i64 ax, .int .i64 ay], .agg #[.int .i64 bx, .int .i64 by'], .agg #[.int .i64 px, .int .i64 py]] W fun e w' => e = .returned (.bool r) ∧ Gr W w' := by
  have H1 := Lib.hid A1
  have H2 := Lib.hid A2
  clear A1 A2
  rcases hc with ⟨rfl, rfl⟩ | ⟨rfl, rfl⟩
  · go_enter Tryd.func75, Tryd.ntmps75
    go_wp2_with fail
    go_at_call 73
    refine ((H1.out _ _ (by go_simp) (by go_simp) (by go_simp) (by go_simp) (by go_simp) (by go_simp) (by go_simp))).mono ?_
    rintro e w1 ⟨rfl, hw1⟩
    have cw1_0_0 : w1.cell? ⟨W.heap.size, 0, none⟩ = some (.int .i64 ax) := cell_gr hw1 (by go_simp)
    have cw1_0_1 : w1.cell? ⟨W.heap.size, 1, none⟩ = some (.int .i64 ay) := cell_gr hw1 (by go_simp)
    have zw1_0 : W.heap.size < w1.heap.size := World.block_lt_of_cell? _ _ cw1_0_0
    have cw1_1_0 : w1.cell? ⟨W.heap.size + 1, 0, none⟩ = some (.int .i64 bx) := cell_gr hw1 (by go_simp)
    have cw1_1_1 : w1.cell? ⟨W.heap.size + 1, 1, none⟩ = some (.int .i64 by') := cell_gr hw1 (by go_simp)
    have zw1_1 : W.heap.size + 1 < w1.heap.size := World.block_lt_of_cell? _ _ cw1_1_0
    have cw1_2_0 : w1.cell? ⟨W.heap.size + 1 + 1, 0, none⟩ = some (.int .i64 px) := cell_gr hw1 (by go_simp)
    have cw1_2_1 : w1.cell? ⟨W.heap.size + 1 + 1, 1, none⟩ = some (.int .i64 py) := cell_gr hw1 (by go_simp)
    have zw1_2 : W.heap.size + 1 + 1 < w1.heap.size := World.block_lt_of_cell? _ _ cw1_2_0
    have gw1 : Gr W w1 := Gr.trans (by go_grown) hw1
    clear hw1
    go_wp2_with fail
    go_ret
    exact ⟨rfl, by go_grown⟩
  · go_enter Tryd.func75, Tryd.ntmps75
    go_wp2_with fail
    go_at_call 73
    refine ((H1.out _ _ (by go_simp) (by go_simp) (by go_simp) (by go_simp) (by go_simp) (by go_simp) (by go_simp))).mono ?_
    rintro e w1 ⟨rfl, hw1⟩
    have cw1_0_0 : w1.cell? ⟨W.heap.size, 0, none⟩ = some (.int .i64 ax) := cell_gr hw1 (by go_simp)
    have cw1_0_1 : w1.cell? ⟨W.heap.size, 1, none⟩ = some (.int .i64 ay) := cell_gr hw1 (by go_simp)
    have zw1_0 : W.heap.size < w1.heap.size := World.block_lt_of_cell? _ _ cw1_0_0
    have cw1_1_0 : w1.cell? ⟨W.heap.size + 1, 0, none⟩ = some (.int .i64 bx) := cell_gr hw1 (by go_simp)
    have cw1_1_1 : w1.cell? ⟨W.heap.size + 1, 1, none⟩ = some (.int .i64 by') := cell_gr hw1 (by go_simp)
    have zw1_1 : W.heap.size + 1 < w1.heap.size := World.block_lt_of_cell? _ _ cw1_1_0
    have cw1_2_0 : w1.cell? ⟨W.heap.size + 1 + 1, 0, none⟩ = some (.int .i64 px) := cell_gr hw1 (by go_simp)
    have cw1_2_1 : w1.cell? ⟨W.heap.size + 1 + 1, 1, none⟩ = some (.int .i64 py) := cell_gr hw1 (by go_simp)
    have zw1_2 : W.heap.size + 1 + 1 < w1.heap.size := World.block_lt_of_cell? _ _ cw1_2_0
    have gw1 : Gr W w1 := Gr.trans (by go_grown) hw1
    clear hw1
    go_wp2_with fail
    go_at_call 79
    refine ((H2.out _)).mono ?_
    rintro e w2 ⟨rfl, hw2⟩
    have cw2_0_0 : w2.cell? ⟨W.heap.size, 0, none⟩ = some (.int .i64 ax) := cell_gr hw2 (by go_simp)
    have cw2_0_1 : w2.cell? ⟨W.heap.size, 1, none⟩ = some (.int .i64 ay) := cell_gr hw2 (by go_simp)
    have zw2_0 : W.heap.size < w2.heap.size := World.block_lt_of_cell? _ _ cw2_0_0
    have cw2_1_0 : w2.cell? ⟨W.heap.size + 1, 0, none⟩ = some (.int .i64 bx) := cell_gr hw2 (by go_simp)
    have cw2_1_1 : w2.cell? ⟨W.heap.size + 1, 1, none⟩ = some (.int .i64 by') := cell_gr hw2 (by go_simp)
    have zw2_1 : W.heap.size + 1 < w2.heap.size := World.block_lt_of_cell? _ _ cw2_1_0
    have cw2_2_0 : w2.cell? ⟨W.heap.size + 1 + 1, 0, none⟩ = some (.int .i64 px) := cell_gr hw2 (by go_simp)
    have cw2_2_1 : w2.cell? ⟨W.heap.size + 1 + 1, 1, none⟩ = some (.int .i64 py) := cell_gr hw2 (by go_simp)
    have zw2_2 : W.heap.size + 1 + 1 < w2.heap.size := World.block_lt_of_cell? _ _ cw2_2_0
    have gw2 : Gr W w2 := Gr.trans (by have gg := gw1; have gs := gg.size; go_grown) hw2
    clear hw2 gw1 zw1_0 cw1_0_0 cw1_0_1 zw1_1 cw1_1_0 cw1_1_1 zw1_2 cw1_2_0 cw1_2_1
    go_wp2_with fail
    go_ret
    exact ⟨rfl, by go_grown⟩
theorem c_gOn (ax ay bx by' px py : Int) (W : World) : Calls Tryd.prog 75 #[.agg #[.int .i64 ax, .int .i64 ay], .agg #[.int .i64 bx, .int .i64 by'], .agg #[.int .i64 px, .int .i64 py]] W fun e w' => e = .returned (.bool (onG ax ay bx by' px py)) ∧ Gr W w' := by
  refine gOn_core ax ay bx by' px py _ _ _ W ?_ (fun b w => c_gMayBe3 ax ay bx by' px py _ rfl b w) (c_gon ax ay bx by' px py)
  unfold onG
  cases h : (nearB ax ay && nearB bx by' && nearB px py)
  · exact Or.inl ⟨rfl, rfl⟩
  · exact Or.inr ⟨rfl, by rw [onC_eq h]; rfl⟩
end Go.Proofs.YtfobmlgpjhghdaaDoor
