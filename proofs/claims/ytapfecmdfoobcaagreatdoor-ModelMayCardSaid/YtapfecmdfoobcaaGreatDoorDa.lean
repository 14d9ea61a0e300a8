/- disk: what a disk holds -/
import Derived.Test.YtapfecmdfoobcaaGreatDoorRo
import Derived.Maps.OwnSet
import Derived.Maps.OwnOps
namespace Go.Proofs.YtapfecmdfoobcaaGreatDoor
set_option linter.unusedVariables false
set_option linter.unusedSimpArgs false
open Go.ChangeShapes Go.WideShapes Go.ChangeAt Go.RowKit Go.Maps

/-- An element of a map, as it is. -/
def heldE (v : Value) : Option (DataW Value × List MemPlace) := some (.held v, [])
section
variable {P : Program} (w : World) {ops : Array Oper} {rest : List Oper} {o : Oper} {a : Act} {Q : Exit → Act → World → Prop}
/-- 'v, ok := m[k]' at a key that is there. -/
theorem wpList_look_hit (hg : o.guard = none) (m x : Operand) (t : TypeId) (hop : o.op = Op.lookup t m x true)
    (k e : TypeId) (K : Keyed P k) (ht : P.underlying t = some (.map k e)) {z : Value} (hz : (zeroValue e).run P w = .ok z w) (b n : Nat) (D : DataW Value)
    (hm : a.eval m = .map (some b)) (hown : w.ownsMap P k heldE b n D) (key : Value) (kl : Lit) (hx : a.eval x = key) (hkey : keyOf P k key = some kl)
    (hh : Maps.has D kl = true) (v : Value) (hv : ∀ z, D.atKey kl z = .held v)
    (hK : wpList P ops Q rest (a.put o.dst (.tuple #[v, .bool true])) w) : wpList P ops Q (o :: rest) a w := by
  refine wpList_lookup_own_ok w hg m x t hop k e K ht heldE hz (.held z) [] rfl b n D hm hown key kl hx hkey ?_
  intro v' ps h
  have e1 : (DataW.held v' : DataW Value) = .held v := by
    have := (Prod.mk.inj (Option.some.inj h)).1
    rw [this]; exact hv _
  obtain rfl := DataW.held.inj e1
  rw [hh]
  exact hK
/-- .. that is not there. -/
theorem wpList_look_miss (hg : o.guard = none) (m x : Operand) (t : TypeId) (hop : o.op = Op.lookup t m x true)
    (k e : TypeId) (K : Keyed P k) (ht : P.underlying t = some (.map k e)) {z : Value} (hz : (zeroValue e).run P w = .ok z w) (b n : Nat) (D : DataW Value)
    (hm : a.eval m = .map (some b)) (hown : w.ownsMap P k heldE b n D) (key : Value) (kl : Lit) (hx : a.eval x = key) (hkey : keyOf P k key = some kl)
    (hh : Maps.has D kl = false)
    (hK : wpList P ops Q rest (a.put o.dst (.tuple #[z, .bool false])) w) : wpList P ops Q (o :: rest) a w := by
  refine wpList_lookup_own_ok w hg m x t hop k e K ht heldE hz (.held z) [] rfl b n D hm hown key kl hx hkey ?_
  intro v' ps h
  have e1 : (DataW.held v' : DataW Value) = .held z := by
    have := (Prod.mk.inj (Option.some.inj h)).1
    rw [this]; exact atKey_of_not_has hh _
  obtain rfl := DataW.held.inj e1
  rw [hh]
  exact hK
/-- 'm[k]' at a key that is there. -/
theorem wpList_look1_hit (hg : o.guard = none) (m x : Operand) (t : TypeId) (hop : o.op = Op.lookup t m x false)
    (k e : TypeId) (K : Keyed P k) (ht : P.underlying t = some (.map k e)) {z : Value} (hz : (zeroValue e).run P w = .ok z w) (b n : Nat) (D : DataW Value)
    (hm : a.eval m = .map (some b)) (hown : w.ownsMap P k heldE b n D) (key : Value) (kl : Lit) (hx : a.eval x = key) (hkey : keyOf P k key = some kl)
    (v : Value) (hv : ∀ z, D.atKey kl z = .held v)
    (hK : wpList P ops Q rest (a.put o.dst v) w) : wpList P ops Q (o :: rest) a w := by
  refine wpList_plain hg fun K' hK' => ?_
  obtain ⟨v', ps, hrun, hr⟩ := hown.lookup K ht (zd := .held z) (zp := []) hz rfl hkey
  have e1 : (DataW.held v' : DataW Value) = .held v := by
    have := (Prod.mk.inj (Option.some.inj hr)).1
    rw [this]; exact hv _
  obtain rfl := DataW.held.inj e1
  unfold Oper.wp
  simp [execOp, hop, hm, hx, hrun, Result.andThen]
  exact hK' _ _ hK
end
abbrev ik (k : Nat) : Lit := .int .i64 (k : Int)
theorem ik_key (k : Nat) : WideAt.IsKeyLit (ik k) := by simp [WideAt.IsKeyLit]
theorem ik_ne {j k : Nat} (h : j ≠ k) : ik j ≠ ik k := fun e => h (by have := (Lit.int.inj e).2; omega)
/-- A disk, as plain data: how many sectors; what is for good; the sectors that wait, as first written; what they are to be; the counts. -/
structure Dk where
  n : Nat
  good : List UInt8
  ord : List Nat
  F : Nat → List UInt8
  ops : Nat
  cut : Bool
  left : Int
  off : Bool
/-- A sector of a row. -/
def sec (L : List UInt8) (at_ : Nat) : List UInt8 := (L.drop (at_ * 64)).take 64
def Dk.read (d : Dk) (k : Nat) : List UInt8 := if k ∈ d.ord then d.F k else sec d.good k
structure Dk.ok (d : Dk) : Prop where
  n1 : 1 ≤ d.n
  n2 : d.n ≤ 8192
  len : d.good.length = d.n * 64
  nodup : d.ord.Nodup
  lt : ∀ k ∈ d.ord, k < d.n
  sz : ∀ k ∈ d.ord, (d.F k).length = 64
  ops : d.ops ≤ 1000000
  left : d.cut = false → -(d.ops : Int) ≤ d.left ∧ d.left ≤ 0
  lft : Hid (-9223372036854775808 ≤ d.left ∧ d.left ≤ 9223372036854775807)
/-- The head's cells. -/
structure DiskAt (w : World) (p : Nat) (gv : Value) (bm : Nat) (ov : Value) (ops : Int) (cut : Bool) (left : Int) (off : Bool) : Prop where
  c0 : w.cell? ⟨p, 0, none⟩ = some gv
  c1 : w.cell? ⟨p, 1, none⟩ = some (.map (some bm))
  c2 : w.cell? ⟨p, 2, none⟩ = some ov
  c3 : w.cell? ⟨p, 3, none⟩ = some (.int .i64 ops)
  c4 : w.cell? ⟨p, 4, none⟩ = some (.bool cut)
  c5 : w.cell? ⟨p, 5, none⟩ = some (.int .i64 left)
  c6 : w.cell? ⟨p, 6, none⟩ = some (.bool off)
  f0 : w.frozen? ⟨p, 0, none⟩ = false
  f2 : w.frozen? ⟨p, 2, none⟩ = false
  f3 : w.frozen? ⟨p, 3, none⟩ = false
  f4 : w.frozen? ⟨p, 4, none⟩ = false
  f5 : w.frozen? ⟨p, 5, none⟩ = false
  f6 : w.frozen? ⟨p, 6, none⟩ = false
theorem diskAt_kx {a b : World} {p bm : Nat} {gv ov : Value} {ops left : Int} {cut off : Bool} {S : Nat → Prop} (h : DiskAt a p gv bm ov ops cut left off) (g : Kx S a b) (hp : ¬ S p) : DiskAt b p gv bm ov ops cut left off :=
  ⟨cell_kx g hp h.c0, cell_kx g hp h.c1, cell_kx g hp h.c2, cell_kx g hp h.c3, cell_kx g hp h.c4, cell_kx g hp h.c5, cell_kx g hp h.c6,
   frozen_kx g hp h.c0 h.f0, frozen_kx g hp h.c2 h.f2, frozen_kx g hp h.c3 h.f3, frozen_kx g hp h.c4 h.f4, frozen_kx g hp h.c5 h.f5, frozen_kx g hp h.c6 h.f6⟩
theorem diskAt_gr {a b : World} {p bm : Nat} {gv ov : Value} {ops left : Int} {cut off : Bool} (h : DiskAt a p gv bm ov ops cut left off) (g : Gr a b) : DiskAt b p gv bm ov ops cut left off :=
  diskAt_kx (S := fun _ => False) h (Kx.of_gr g) (fun h => h)
theorem ownsMap_kx {P : Program} {k : TypeId} {S : Nat → Prop} {a b : World} {m n : Nat} {D : DataW Value} (h : a.ownsMap P k heldE m n D) (g : Kx S a b) (hm : ¬ S m) : b.ownsMap P k heldE m n D := by
  obtain ⟨es, clock, hb, r⟩ := h
  exact ⟨es, clock, heap_kx g hm hb, r⟩
theorem ownsMap_tight {P : Program} {k : TypeId} {a : World} {m n : Nat} {D : DataW Value} (h : a.ownsMap P k heldE m n D) : a.ownsMap P k heldE m (Maps.size D) D := by
  obtain ⟨es, clock, hb, F, hs, rfl⟩ := h
  exact ⟨es, clock, hb, F, by simp [Maps.size, length_sorted], rfl⟩
/-- The disk's own blocks. -/
abbrev dkZ (p g bm : Nat) (M : Option Nat) : Nat → Prop := fun k => k = p ∨ k = g ∨ k = bm ∨ M = some k
/-- What the map of the waiting ones says. -/
def Waits (w : World) (Z : Nat → Prop) (bm : Nat) (d : Dk) : Prop :=
  ∃ D, w.ownsMap Tryz.prog 3 heldE bm d.ord.length D ∧ Maps.size D = d.ord.length ∧ ∀ k : Nat, k < 10000 → (k ∉ d.ord → Maps.has D (ik k) = false) ∧ (k ∈ d.ord → Maps.has D (ik k) = true ∧ ∃ v, (∀ z, D.atKey (ik k) z = .held v) ∧ RowOff w Z v (d.F k))
theorem waits_turn {a b : World} {S Z Z' : Nat → Prop} {bm : Nat} {d : Dk} (h : Waits a Z bm d) (g : Kx S a b) (hm : ¬ S bm) (hS : ∀ k, S k → Z k ∨ a.heap.size ≤ k) (hZ : ∀ k, Z' k → Z k ∨ a.heap.size ≤ k) : Waits b Z' bm d := by
  obtain ⟨D, h1, h2, h3⟩ := h
  refine ⟨D, ownsMap_kx h1 g hm, h2, fun k hk => ⟨(h3 k hk).1, fun hin => ?_⟩⟩
  obtain ⟨e1, v, e2, e3⟩ := (h3 k hk).2 hin
  exact ⟨e1, v, e2, rowOff_mono (rowOff_kx (rowOff_mono (Z' := fun k => Z k ∨ a.heap.size ≤ k) e3 (fun k h => h)) g (fun k hk => Or.inl (hS k hk))) (fun k hk => Or.inl (hZ k hk))⟩
/-- A disk: its head in p, its sectors in g, its map in bm, its order's row in M. -/
structure DiskS (w : World) (p g bm : Nat) (M : Option Nat) (d : Dk) : Prop where
  ok : d.ok
  head : ∃ cap ov, DiskAt w p (.slice (some ⟨g, 0, none⟩) (d.n * 64) cap) bm ov d.ops d.cut d.left d.off ∧ Own w 0 (.slice (some ⟨g, 0, none⟩) (d.n * 64) cap) d.good ∧
    w.ownsRow 0 3 1 ov d.ord.length (d.ord.map fun (k : Nat) => Value.int .i64 (k : Int)) ∧ ov.ownBlock = M
  waits : Waits w (dkZ p g bm M) bm d
  ne : p ≠ g ∧ p ≠ bm ∧ g ≠ bm ∧ M ≠ some p ∧ M ≠ some g ∧ M ≠ some bm
theorem diskS_kx {a b : World} {T : Nat → Prop} {p g bm : Nat} {M : Option Nat} {d : Dk} (h : DiskS a p g bm M d) (k : Kx T a b) (hT : ∀ k, T k → ¬ dkZ p g bm M k ∧ a.heap.size ≤ k) : DiskS b p g bm M d := by
  obtain ⟨h1, ⟨cap, ov, h2, h3, h4, h5⟩, h6, h7⟩ := h
  refine ⟨h1, ⟨cap, ov, diskAt_kx h2 k (fun hs => (hT _ hs).1 (Or.inl rfl)), rowOwn_kxS h3 k (fun j hj hs => ?_), rowOwn_kxS h4 k (fun j hj hs => ?_), h5⟩, waits_turn h6 k (fun hs => (hT _ hs).1 (Or.inr (Or.inr (Or.inl rfl)))) (fun k hk => Or.inr (hT k hk).2) (fun k hk => Or.inl hk), h7⟩
  · obtain rfl : g = j := by simpa [Value.ownBlock] using hj
    exact (hT _ hs).1 (Or.inr (Or.inl rfl))
  · exact (hT _ hs).1 (Or.inr (Or.inr (Or.inr (by rw [← h5]; exact hj))))
theorem diskS_gr {a b : World} {p g bm : Nat} {M : Option Nat} {d : Dk} (h : DiskS a p g bm M d) (k : Gr a b) : DiskS b p g bm M d :=
  diskS_kx (T := fun _ => False) h (Kx.of_gr k) (fun _ h => h.elim)
theorem diskS_lt {a : World} {p g bm : Nat} {M : Option Nat} {d : Dk} (h : DiskS a p g bm M d) : p < a.heap.size := by
  obtain ⟨cap, ov, h2, _⟩ := h.head
  exact World.block_lt_of_cell? _ _ h2.c0
theorem diskS_zlt {a : World} {p g bm : Nat} {M : Option Nat} {d : Dk} (h : DiskS a p g bm M d) : ∀ k, dkZ p g bm M k → k < a.heap.size := fun k hk => by
  obtain ⟨cap, ov, h2, h3, h4, h5⟩ := h.head
  obtain ⟨D, hD, -⟩ := h.waits
  rcases hk with rfl | rfl | rfl | hk
  · exact World.block_lt_of_cell? _ _ h2.c0
  · exact (World.ownsRow.lt h3 k rfl).2
  · exact hD.lt
  · exact (World.ownsRow.lt h4 k (by rw [h5, hk])).2
/-- What may turn in a call on a disk. -/
abbrev dkT (W : World) (p g bm : Nat) (M : Option Nat) : Nat → Prop := fun k => dkZ p g bm M k ∨ W.heap.size ≤ k
end Go.Proofs.YtapfecmdfoobcaaGreatDoor
