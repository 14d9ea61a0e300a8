/- model: Same of two maps that have the same -/
import Derived.Test.YtpomllpplpalkaaGreatDoorWl
namespace Go.Proofs.YtpomllpplpalkaaGreatDoor
set_option linter.unusedVariables false
set_option linter.unusedSimpArgs false
open Go.ChangeShapes Go.WideShapes Go.ChangeAt Go.RowKit Go.Maps Go.Sort

theorem own_ints {w : World} {base e : Nat} {v : Value} {l : List Int} (h : w.ownsRow base e 1 v l.length (l.map encZ)) : ∃ ad cap L, v = .slice ad l.length cap ∧ (0 < l.length → ad = some ⟨L, 0, none⟩) ∧ ∀ i, i < l.length → w.cell? ⟨L, i, none⟩ = some (.int .i64 (l.getD i 0)) := by
  rcases h.2 with ⟨hv, h0⟩ | ⟨g, cap, cur, rfl, hb, hg, hn', hc, hs, ht⟩
  · have e0 : l.length = 0 := by simpa using h0
    rw [e0]
    exact ⟨none, 0, 0, hv, fun h => absurd h (by omega), fun i hi => absurd hi (by omega)⟩
  · refine ⟨some ⟨g, 0, none⟩, cap, g, rfl, fun _ => rfl, fun i hi => ?_⟩
    rw [h.cellAt i (by omega), List.getElem?_map, List.getD_eq_getElem?_getD, List.getElem?_eq_getElem hi]
    rfl
theorem md_pLook {P : Program} {o : Oper} {a : Act} {w : World} (m x : Operand) (t : TypeId) (hop : o.op = Op.lookup t m x false)
    (k e : TypeId) (K : Keyed P k) (ht : P.underlying t = some (.map k e)) {z : Value} (hz : (zeroValue e).run P w = .ok z w) (b n : Nat) (D : DataW Value)
    (hm : a.eval m = .map (some b)) (hown : w.ownsMap P k heldE b n D) (key : Value) (kl : Lit) (hx : a.eval x = key) (hkey : keyOf P k key = some kl)
    (v : Value) (hv : ∀ z, D.atKey kl z = .held v) : Od.pAt P o a w v := by
  obtain ⟨v', ps, hrun, hr⟩ := hown.lookup K ht (zd := .held z) (zp := []) hz rfl hkey
  have e1 : (DataW.held v' : DataW Value) = .held v := by
    have := (Prod.mk.inj (Option.some.inj hr)).1
    rw [this]; exact hv _
  obtain rfl := DataW.held.inj e1
  unfold Od.pAt Oper.wp
  simp [execOp, hop, hm, hx, hrun, Result.andThen]
  rw [Oper.upon_value]
  exact ⟨rfl, rfl⟩
theorem mdAt_some {w : World} {Q N : Nat} {M : Option Nat} {σ : Int → Option MO} {z : Int} {o : MO} (h : MdAt w Q M σ N) (hz : i64R z) (ho : σ z = some o) : ∃ m D B c, M = some m ∧ w.ownsMap Tryz.prog 3 heldE m N D ∧ (∀ y, D.atKey (zk z) y = .held (.agg #[.int .i64 o.k, .slice (some ⟨B, 0, none⟩) o.n c])) ∧ 0 < o.n ∧ o.n ≤ 1000 ∧ Pts w (.slice (some ⟨B, 0, none⟩) o.n c) o.n o.X o.Y := by
  cases M with
  | none => rw [h.2.1 rfl z] at ho; cases ho
  | some m =>
    obtain ⟨D, hD, hA⟩ := h.2.2 m rfl
    obtain ⟨-, h1, h2, B, c, h3, h4⟩ := (hA z hz).2 o ho
    exact ⟨m, D, B, c, rfl, hD, h3, h1, h2, h4.1⟩
end Go.Proofs.YtpomllpplpalkaaGreatDoor
