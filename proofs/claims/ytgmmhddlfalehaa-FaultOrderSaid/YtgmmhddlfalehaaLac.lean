/- FaultAsks: what is within, as lists -/
import Derived.Test.YtgmmhddlfalehaaLz
namespace Go.Proofs.Ytgmmhddlfalehaa
set_option linter.unusedVariables false
set_option linter.unusedSimpArgs false
open Go.ChangeShapes Go.WideShapes Go.ChangeAt Go.RowKit

def catW {α : Type} (f : Nat → List α) : Nat → List α
  | 0 => []
  | i + 1 => catW f i ++ f i
/-- Number and op of all of a kind, in order. -/
def Nd.wi (q : Int) : Nd → List (Int × ByteArray)
  | .nil => []
  | .mk k N op n kids => (if k = q then [(N, op)] else []) ++ (if k = 2 ∨ k = 6 then (if 0 < n then (kids 0).wi q else []) else if k = 3 then catW (fun i => (kids i).wi q) n else [])
theorem flatG_cat {α : Type} (f : Nat → List α) : ∀ n lo, flatG f lo n = catW (fun i => f (lo + i)) n
  | 0, _ => rfl
  | n + 1, lo => by
    show f lo ++ flatG f (lo + 1) n = _
    rw [flatG_cat f n (lo + 1)]
    have h : ∀ m, f lo ++ catW (fun i => f (lo + 1 + i)) m = catW (fun i => f (lo + i)) (m + 1) := fun m => by
      induction m with
      | zero => show f lo ++ [] = [] ++ f (lo + 0); rw [List.append_nil]; rfl
      | succ m ih =>
        show f lo ++ (catW (fun i => f (lo + 1 + i)) m ++ f (lo + 1 + m)) = catW (fun i => f (lo + i)) (m + 1) ++ f (lo + (m + 1))
        rw [← ih, List.append_assoc, show lo + 1 + m = lo + (m + 1) by omega]
    exact h n
theorem catW_congr {α : Type} {f g : Nat → List α} : ∀ n, (∀ i, i < n → f i = g i) → catW f n = catW g n
  | 0, _ => rfl
  | n + 1, h => by
    show catW f n ++ f n = catW g n ++ g n
    rw [catW_congr n (fun i hi => h i (by omega)), h n (by omega)]
theorem catW_filterMap {α β : Type} (g : α → Option β) (f : Nat → List α) : ∀ n, (catW f n).filterMap g = catW (fun i => (f i).filterMap g) n
  | 0 => rfl
  | n + 1 => by
    show (catW f n ++ f n).filterMap g = _
    rw [List.filterMap_append, catW_filterMap g f n]
    rfl
theorem catW_map {α β : Type} (g : α → β) (f : Nat → List α) : ∀ n, (catW f n).map g = catW (fun i => (f i).map g) n
  | 0 => rfl
  | n + 1 => by
    show (catW f n ++ f n).map g = _
    rw [List.map_append, catW_map g f n]
    rfl
/-- What of an error within is told of by its kind. -/
def Er.num? : Er → Option (Int × ByteArray)
  | .num k => some (k, ⟨#[]⟩)
  | _ => none
def Er.flt? : Er → Option (Int × ByteArray)
  | .flt op id _ => some (id, op)
  | _ => none
/-- The numbers, in order. -/
theorem mv_nums {Z : Nat → Prop} {w : World} : ∀ (T : Nd) {E : Er} {v : Value}, MV Z w T E v → E.pre.filterMap Er.code = (T.wi 1).map (·.1) := by
  intro T
  induction T with
  | nil => intro E v h; exact h.elim
  | mk kind N op n kids ih =>
    intro E v h
    show _ = ((if kind = 1 then [(N, op)] else []) ++ (if kind = 2 ∨ kind = 6 then (if 0 < n then (kids 0).wi 1 else []) else if kind = 3 then catW (fun i => (kids i).wi 1) n else [])).map (·.1)
    rcases h with ⟨hk, rfl, rfl⟩ | ⟨hk, F, u, e, rfl, rfl, h3, h4, h5⟩ | ⟨hk, es, P, ad, cap, B, off, rfl, rfl, h3, h4, h5, h6, h7, h8⟩ | ⟨hk, P, rfl, rfl, h3, h4⟩ | ⟨hk, rfl, rfl⟩ | ⟨hk, P, u, e, rfl, rfl, h3, h4, h5⟩ | ⟨hk, rfl, rfl⟩
    · subst hk; rfl
    · subst hk
      rw [if_neg (by decide), if_pos (Or.inl rfl), List.nil_append]
      show e.pre.filterMap Er.code = _
      rcases h5 with ⟨hn, hm⟩ | ⟨hn, rfl, rfl⟩
      · rw [if_pos hn]; exact ih 0 hm
      · rw [if_neg (by omega)]; rfl
    · subst hk
      rw [if_neg (by decide), if_neg (by decide), if_pos rfl, List.nil_append, catW_map]
      show (flatG (fun i => (es i).pre) 0 n).filterMap Er.code = _
      rw [flatG_cat, catW_filterMap]
      refine catW_congr n (fun i hi => ?_)
      obtain ⟨u, hu, hm⟩ := h8 i hi
      rw [Nat.zero_add]
      exact ih i hm
    · subst hk; rfl
    · subst hk; rfl
    · subst hk
      rw [if_neg (by decide), if_pos (Or.inr rfl), List.nil_append]
      show e.pre.filterMap Er.code = _
      rcases h5 with ⟨hn, hm⟩ | ⟨hn, rfl, rfl⟩
      · rw [if_pos hn]; exact ih 0 hm
      · rw [if_neg (by omega)]; rfl
    · rw [if_neg (by omega), if_neg (by omega), if_neg (by omega)]; rfl
/-- The Faults, in order. -/
theorem mv_flts {Z : Nat → Prop} {w : World} : ∀ (T : Nd) {E : Er} {v : Value}, MV Z w T E v → E.pre.filterMap Er.flt? = T.wi 2 := by
  intro T
  induction T with
  | nil => intro E v h; exact h.elim
  | mk kind N op n kids ih =>
    intro E v h
    show _ = (if kind = 2 then [(N, op)] else []) ++ (if kind = 2 ∨ kind = 6 then (if 0 < n then (kids 0).wi 2 else []) else if kind = 3 then catW (fun i => (kids i).wi 2) n else [])
    rcases h with ⟨hk, rfl, rfl⟩ | ⟨hk, F, u, e, rfl, rfl, h3, h4, h5⟩ | ⟨hk, es, P, ad, cap, B, off, rfl, rfl, h3, h4, h5, h6, h7, h8⟩ | ⟨hk, P, rfl, rfl, h3, h4⟩ | ⟨hk, rfl, rfl⟩ | ⟨hk, P, u, e, rfl, rfl, h3, h4, h5⟩ | ⟨hk, rfl, rfl⟩
    · subst hk; rfl
    · subst hk
      rw [if_pos rfl, if_pos (Or.inl rfl)]
      show (N, op) :: e.pre.filterMap Er.flt? = _
      rcases h5 with ⟨hn, hm⟩ | ⟨hn, rfl, rfl⟩
      · rw [if_pos hn, ih 0 hm]; rfl
      · rw [if_neg (by omega)]; rfl
    · subst hk
      rw [if_neg (by decide), if_neg (by decide), if_pos rfl, List.nil_append]
      show (flatG (fun i => (es i).pre) 0 n).filterMap Er.flt? = _
      rw [flatG_cat, catW_filterMap]
      refine catW_congr n (fun i hi => ?_)
      obtain ⟨u, hu, hm⟩ := h8 i hi
      rw [Nat.zero_add]
      exact ih i hm
    · subst hk; rfl
    · subst hk; rfl
    · subst hk
      rw [if_neg (by decide), if_pos (Or.inr rfl), List.nil_append]
      show e.pre.filterMap Er.flt? = _
      rcases h5 with ⟨hn, hm⟩ | ⟨hn, rfl, rfl⟩
      · rw [if_pos hn, ih 0 hm]
      · rw [if_neg (by omega)]; rfl
    · rw [if_neg (by omega), if_neg (by omega), if_neg (by omega)]; rfl
theorem firstN_fm : ∀ l : List Er, firstN l = (l.filterMap Er.code).headD 0
  | [] => rfl
  | T :: l => by
    have ih := firstN_fm l
    unfold firstN at *
    rw [List.findSome?_cons, List.filterMap_cons]
    cases T.code with
    | none => exact ih
    | some k => rfl
theorem opsN_fm : ∀ l : List Er, opsN l = (l.filterMap Er.flt?).map (·.2)
  | [] => rfl
  | T :: l => by
    have ih := opsN_fm l
    unfold opsN at *
    rw [List.filterMap_cons, List.filterMap_cons, ih]
    cases T <;> rfl
theorem firstF_fm (o : ByteArray) : ∀ l : List Er, (firstF o l).bind Er.flt? = (l.filterMap Er.flt?).find? (fun x => decide (x.2 = o))
  | [] => rfl
  | T :: l => by
    have ih := firstF_fm o l
    unfold firstF at *
    rw [List.find?_cons, List.filterMap_cons]
    cases T with
    | flt op id kid =>
      by_cases h : op = o
      · have h1 : (Er.flt op id kid).op? = some o := congrArg some h
        have h2 : decide (((id, op) : Int × ByteArray).2 = o) = true := decide_eq_true h
        rw [decide_eq_true h1]
        show some (id, op) = List.find? _ ((id, op) :: _)
        rw [List.find?_cons, h2]
      · have h1 : ¬ (Er.flt op id kid).op? = some o := fun e => h (Option.some.inj e)
        have h2 : decide (((id, op) : Int × ByteArray).2 = o) = false := decide_eq_false h
        rw [decide_eq_false h1]
        show (List.find? _ l).bind Er.flt? = List.find? _ ((id, op) :: _)
        rw [List.find?_cons, h2]
        exact ih
    | _ => exact ih
end Go.Proofs.Ytgmmhddlfalehaa
