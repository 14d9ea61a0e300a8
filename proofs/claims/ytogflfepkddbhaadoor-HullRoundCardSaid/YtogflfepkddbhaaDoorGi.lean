/- ring: overRay, Holds -/
import Derived.Test.YtogflfepkddbhaaDoorGc
namespace Go.Proofs.YtogflfepkddbhaaDoor
set_option linter.unusedVariables false
open Go.ChangeShapes Go.WideShapes Go.ChangeAt Go.RowKit

/-- Does the edge a b go over the ray from p to the right? By what Orient answers. -/
def ovZ (ax ay bx by' px py : Int) : Bool :=
  if by' ≤ py ∧ py < ay then decide (0 < orZ bx by' ax ay px py)
  else if ay ≤ py ∧ py < by' then decide (0 < orZ ax ay bx by' px py) else false
theorem or_pos {ax ay bx by' px py : Int} (h1 : nearB ax ay = true) (h2 : nearB bx by' = true) (h3 : nearB px py = true) : decide (0 < orZ ax ay bx by' px py) = decide (0 < cr ax ay bx by' px py) := by
  have e : crossZ ax ay bx by' px py = cr ax ay bx by' px py := by unfold crossZ cr; rw [h1, h2, h3]; rfl
  unfold orZ
  rw [e, decide_eq_decide]
  unfold cmpZ
  split
  · omega
  · split <;> omega
theorem ovZ_near {ax ay bx by' px py : Int} (h1 : nearB ax ay = true) (h2 : nearB bx by' = true) (h3 : nearB px py = true) : ovZ ax ay bx by' px py = Rg.ovR ax ay bx by' px py := by
  unfold ovZ Rg.ovR
  rw [or_pos h1 h2 h3, or_pos h2 h1 h3]
end Go.Proofs.YtogflfepkddbhaaDoor
namespace Go.Proofs.YtogflfepkddbhaaDoor
set_option linter.unusedVariables false
open Go.ChangeShapes Go.WideShapes Go.ChangeAt Go.RowKit Go.Shelf

attribute [local go_sem] Oper.semAt_some
def odW (n : Nat) (X Y : Nat → Int) (px py : Int) (pre : List Nat) : Bool := pre.foldl (fun o k => o != ovZ (X k) (Y k) (X (Rg.nx1 n k)) (Y (Rg.nx1 n k)) px py) false
def onW (n : Nat) (X Y : Nat → Int) (px py : Int) (pre : List Nat) : Bool := pre.any fun k => onG (X k) (Y k) (X (Rg.nx1 n k)) (Y (Rg.nx1 n k)) px py
theorem odW_snoc (n : Nat) (X Y : Nat → Int) (px py : Int) (pre : List Nat) (k : Nat) : odW n X Y px py (pre ++ [k]) = (odW n X Y px py pre != ovZ (X k) (Y k) (X (Rg.nx1 n k)) (Y (Rg.nx1 n k)) px py) := by
  unfold odW; rw [List.foldl_append]; rfl
theorem onW_snoc (n : Nat) (X Y : Nat → Int) (px py : Int) (pre : List Nat) (k : Nat) : onW n X Y px py (pre ++ [k]) = (onW n X Y px py pre || onG (X k) (Y k) (X (Rg.nx1 n k)) (Y (Rg.nx1 n k)) px py) := by
  unfold onW; rw [List.any_append]; simp
theorem onW_all (n : Nat) (X Y : Nat → Int) (px py : Int) : ∀ k, onW n X Y px py (List.range k) = Rg.onN n X Y px py k := by
  intro k
  induction k with
  | zero => rfl
  | succ k ih => rw [List.range_succ, onW_snoc, ih]; rfl
theorem odW_all {n : Nat} {X Y : Nat → Int} {px py : Int} (hnr : ∀ k, k < n → nearB (X k) (Y k) = true) (hp : nearB px py = true) : ∀ k, k ≤ n → odW n X Y px py (List.range k) = Rg.odN n X Y px py k := by
  intro k
  induction k with
  | zero => intro _; rfl
  | succ k ih =>
    intro hk
    have hx : Rg.nx1 n k < n := by unfold Rg.nx1; split <;> omega
    rw [List.range_succ, odW_snoc, ih (by omega), ovZ_near (hnr k (by omega)) (hnr _ hx) hp]
    rfl
theorem onW_mono {n : Nat} {X Y : Nat → Int} {px py : Int} {k : Nat} (hk : k ≤ n) (h : onW n X Y px py (List.range k) = true) : onW n X Y px py (List.range n) = true := by
  unfold onW at *
  rw [List.any_eq_true] at *
  obtain ⟨x, h1, h2⟩ := h
  exact ⟨x, List.mem_range.2 (by have := List.mem_range.1 h1; omega), h2⟩
theorem results_cell1 {P : Program} {fn : Func} {p : Tmp} {ty : TypeId} (h : fn.results = #[.cell p ty]) {tmps : Array Value} {w : World} {b : Nat} {v : Value} (hp : tmps.getD p undef = .pointer (some ⟨b, 0, none⟩))
    {d : TypeDesc} (hu : P.underlying ty = some d) (hd : (match d with | .struct _ | .array _ _ => true | _ => false) = false) (hc : w.cell? ⟨b, 0, none⟩ = some v) : (results fn tmps).run P w = .ok v w := by
  have hp' : tmps[p]?.getD undef = .pointer (some ⟨b, 0, none⟩) := by simpa using hp
  have hl : (loadVar ty ⟨b, 0, none⟩).run P w = .ok v w := by
    have hagg : (isAgg ty).run P w = .ok false w := by
      unfold isAgg
      cases d <;> first | (cases hd; done) | simp [underlying, Sem.run_bind, Result.andThen, hu, go_sem]
    simp [loadVar, hagg, Sem.run_bind, Result.andThen, hc, go_sem]
  simp [results, h, hp', asAddr, hl]
theorem box2_own {β : Type} (B : Nat) (x y : Int) : Own (fun (_ : β) W => Box2 W B x y) := fun s X Y row hs hg hrow => box2_notcells hs hg hrow
end Go.Proofs.YtogflfepkddbhaaDoor
