/- disk: what a disk holds -/
import Derived.Test.YtpomllpplpalkaaGreatDoorRo
import Derived.Maps.OwnSet
import Derived.Maps.OwnOps
namespace Go.Proofs.YtpomllpplpalkaaGreatDoor
set_option linter.unusedVariables false
set_option linter.unusedSimpArgs false
open Go.ChangeShapes Go.WideShapes Go.ChangeAt Go.RowKit Go.Maps

def heldE (v : Value) : Option (DataW Value × List MemPlace) := some (.held v, [])
section
variable {P : Program} (w : World) {ops : Array Oper} {rest : List Oper} {o : Oper} {a : Act} {Q : Exit → Act → World → Prop}
theorem wpList_look_hit (hg : o.guard = none) (m x : Operand) (t : TypeId) (hop : o.op = Op.lookup t m x true)
    (k e : TypeId) (K : Keyed P k) (ht : P.underlying t = some (.map k e)) {z : Value} (hz : (zeroValue e).run P w = .ok z w) (b n : Nat) (D : DataW Value)
    (hm : a.eval m = .map (some b)) (hown : w.ownsMap P k heldE b n D) (key : Value) (kl : Lit) (hx : a.eval x = key) (hkey : keyOf P k key = some kl)
    (hh : Maps.has D kl = true) (v : Value) (hv : ∀ z, D.atKey kl z = .held v)
    (hK : wpList P ops Q rest (a.put o.dst (.tuple #[v, .bool true])) w) : wpList P ops Q (o :: rest) a w := by
  refine wpList_lookup_own_ok w hg m x t hop k e K ht heldE hz (.held z) [] rfl b n D hm hown key kl hx hkey ?_
  intro v' ps h
  have e1 : (DataW.held v' : DataW Value) = .held v := by
    have := (Prod.mk.inj (Option.some.inj h)).1
    rw [this]; exact hv _
  obtain rfl := DataW.held.inj e1
  rw [hh]
  exact hK
theorem wpList_look_miss (hg : o.guard = none) (m x : Operand) (t : TypeId) (hop : o.op = Op.lookup t m x true)
    (k e : TypeId) (K : Keyed P k) (ht : P.underlying t = some (.map k e)) {z : Value} (hz : (zeroValue e).run P w = .ok z w) (b n : Nat) (D : DataW Value)
    (hm : a.eval m = .map (some b)) (hown : w.ownsMap P k heldE b n D) (key : Value) (kl : Lit) (hx : a.eval x = key) (hkey : keyOf P k key = some kl)
    (hh : Maps.has D kl = false)
    (hK : wpList P ops Q rest (a.put o.dst (.tuple #[z, .bool false])) w) : wpList P ops Q (o :: rest) a w := by
  refine wpList_lookup_own_ok w hg m x t hop k e K ht heldE hz (.held z) [] rfl b n D hm hown key kl hx hkey ?_
  intro v' ps h
  have e1 : (DataW.held v' : DataW Value) = .held z := by
    have := (Prod.mk.inj (Option.some.inj h)).1
    rw [this]; exact atKey_of_not_has hh _
  obtain rfl := DataW.held.inj e1
  rw [hh]
  exact hK
theorem wpList_look1_hit (hg : o.guard = none) (m x : Operand) (t : TypeId) (hop : o.op = Op.lookup t m x false)
    (k e : TypeId) (K : Keyed P k) (ht : P.underlying t = some (.map k e)) {z : Value} (hz : (zeroValue e).run P w = .ok z w) (b n : Nat) (D : DataW Value)
    (hm : a.eval m = .map (some b)) (hown : w.ownsMap P k heldE b n D) (key : Value) (kl : Lit) (hx : a.eval x = key) (hkey : keyOf P k key = some kl)
    (v : Value) (hv : ∀ z, D.atKey kl z = .held v)
    (hK : wpList P ops Q rest (a.put o.dst v) w) : wpList P ops Q (o :: rest) a w := by
  refine wpList_plain hg fun K' hK' => ?_
  obtain ⟨v', ps, hrun, hr⟩ := hown.lookup K ht (zd := .held z) (zp := []) hz rfl hkey
  have e1 : (DataW.held v' : DataW Value) = .held v := by
    have := (Prod.mk.inj (Option.some.inj hr)).1
    rw [this]; exact hv _
  obtain rfl := DataW.held.inj e1
  unfold Oper.wp
  simp [execOp, hop, hm, hx, hrun, Result.andThen]
  exact hK' _ _ hK
end
theorem ownsMap_kx {P : Program} {k : TypeId} {S : Nat → Prop} {a b : World} {m n : Nat} {D : DataW Value} (h : a.ownsMap P k heldE m n D) (g : Kx S a b) (hm : ¬ S m) : b.ownsMap P k heldE m n D := by
  obtain ⟨es, clock, hb, r⟩ := h
  exact ⟨es, clock, heap_kx g hm hb, r⟩
end Go.Proofs.YtpomllpplpalkaaGreatDoor
